"""Counts of fillings and their places: hamperlot.counting."""

import math
import unittest

from hamperlot.counting import (
    MOST_BOX, MOST_LISTED, counts_of_bills, filling_at, fillings, how_many, how_many_of_one, place_of,
)
from hamperlot.errors import BadBill, BadCounts, BadLot, NoPlace, OtherGoods, TooMany
from hamperlot.lots import GREAT, beside, in_order, without
from plain import FEW, all_bills, all_fillings, goods_in, some_lots
from refusing import NO_LOTS, RefusingCase

TWO = ((2, 0), (0, 3), (1, 1))
SMALL = {1: (14,), 2: (6, 6), 3: (4, 3, 4)}
LOTS = FEW + some_lots(11, 12, kinds=(2, 3, 4), hold=3)

# Boxes of just 4000, and bills of the same goods just beyond it.
EDGES = [
    (((1,), (2,)), (3999,), (4000,)), (((1, 1), (0, 2)), (1999, 1), (2000, 1)),
    (((1, 0), (2, 1)), (19, 199), (19, 200)),
    (((1, 1, 1), (2, 0, 1)), (9, 19, 19), (15, 15, 15)), (((1, 1, 1), (2, 0, 1)), (0, 0, 3999), (0, 0, 4000)),
    (((1, 2), (2, 1)), (3999, 0), (GREAT - 1, 0)),
]
# Each is no bill of TWO, with the good that BadBill tells.
NO_BILLS = [
    ((), -1), ((1,), -1), ((1, 1, 1), -1), ((-1, 0), 0), ((0, -1), 1), ((GREAT, 5000), 0), ((5000, GREAT), 1),
    ((-1, GREAT), 0),
]


class SmallBillsTest(unittest.TestCase):
    def test_against_all_counts(self):
        for lot in LOTS:
            for bill in all_bills(SMALL[len(lot[0])]):
                told = all_fillings(lot, bill)
                with self.subTest(lot, bill=bill):
                    self.assertEqual(how_many(lot, bill), len(told))
                    self.assertEqual(fillings(lot, bill, most=len(told)), told)

    def test_counts_of_bills(self):
        for lot in LOTS:
            bill = SMALL[len(lot[0])]
            told = {less: len(all_fillings(lot, less)) for less in all_bills(bill)}
            with self.subTest(lot):
                self.assertEqual(counts_of_bills(lot, bill), {less: many for less, many in told.items() if many})

    def test_counts_of_bills_of_no_goods(self):
        self.assertEqual(counts_of_bills(TWO, (0, 0)), {(0, 0): 1})
        self.assertEqual(counts_of_bills(TWO, (1, 0)), {(0, 0): 1})

    def test_no_goods_are_filled_by_nothing(self):
        self.assertEqual(how_many(TWO, (0, 0)), 1)
        self.assertEqual(fillings(TWO, (0, 0)), [(0, 0, 0)])
        self.assertEqual(filling_at(TWO, (0, 0), 0), (0, 0, 0))
        self.assertEqual(place_of(TWO, (0, 0), (0, 0, 0)), 0)

    def test_what_cannot_be_filled(self):
        self.assertEqual(how_many(TWO, (1, 0)), 0)
        self.assertEqual(fillings(TWO, (1, 0)), [])
        self.assertEqual(fillings(TWO, (1, 0), most=0), [])

    def test_kinds_alike(self):
        self.assertEqual(fillings(((3,), (3,)), (6,)), [(0, 2), (1, 1), (2, 0)])

    def test_kinds_in_another_order(self):
        for lot in some_lots(12, 6, kinds=(3,), hold=3):
            bill = SMALL[len(lot[0])]
            there = in_order(lot, (2, 0, 1))
            self.assertEqual(how_many(there, bill), how_many(lot, bill))
            turned = sorted((counts[2], counts[0], counts[1]) for counts in fillings(lot, bill))
            self.assertEqual(fillings(there, bill), turned)
            self.assertEqual(counts_of_bills(there, bill), counts_of_bills(lot, bill))

    def test_two_lots_beside_one_another(self):
        one, other = ((1,), (2,), (3,)), ((2, 1), (1, 1))
        both = beside(one, other)
        for bill in all_bills((5, 4, 4)):
            self.assertEqual(how_many(both, bill), how_many(one, bill[:1]) * how_many(other, bill[1:]))
            pairs = [left + right for left in fillings(one, bill[:1]) for right in fillings(other, bill[1:])]
            self.assertEqual(fillings(both, bill), pairs)


class FillingsTest(RefusingCase):
    def test_rising_each_once(self):
        for lot, bill in [(((1,), (2,), (3,), (4,)), (20,)), (((1, 1), (2, 1), (1, 2), (3, 3)), (14, 15))]:
            told = fillings(lot, bill)
            self.assertEqual(told, sorted(set(told)))
            self.assertEqual({goods_in(lot, counts) for counts in told}, {bill})

    def test_most(self):
        lot, bill = ((1,), (2,), (3,)), (12,)
        many = how_many(lot, bill)
        self.assertEqual(many, 19)
        self.assertEqual(len(fillings(lot, bill, most=19)), 19)
        self.assertEqual(len(fillings(lot, bill, most=20)), 19)
        for most in (18, 7, 1, 0):
            self.refused(TooMany, {"most": most}, fillings, lot, bill, most=most)

    def test_the_default(self):
        self.assertEqual((MOST_BOX, MOST_LISTED), (4000, 400))
        self.assertEqual(len(fillings(((1,), (1,)), (399,))), 400)
        self.refused(TooMany, {"most": 400}, fillings, ((1,), (1,)), (400,))
        self.assertEqual(len(fillings(((1,), (1,)), (400,), most=401)), 401)

    def test_the_box_goes_ahead_of_the_most(self):
        self.refused(TooMany, {"most": 4000}, fillings, ((1,), (1,)), (4000,), most=0)
        self.refused(TooMany, {"most": 4000}, fillings, ((1,), (1,)), (4000,), most=5000)
        self.refused(TooMany, {"most": 0}, fillings, ((1,), (1,)), (3999,), most=0)
        self.assertEqual(len(fillings(((1,), (1,)), (3999,), most=4000)), 4000)


class PlacesTest(RefusingCase):
    def test_there_and_back_at_every_place(self):
        for lot in LOTS:
            bill = SMALL[len(lot[0])]
            told = all_fillings(lot, bill)
            for place, counts in enumerate(told):
                self.assertEqual(filling_at(lot, bill, place), counts)
                self.assertEqual(place_of(lot, bill, counts), place)
            self.refused(NoPlace, {"place": len(told)}, filling_at, lot, bill, len(told))

    def test_many_places(self):
        lot, bill = ((1,),) * 5, (1000,)
        many = how_many(lot, bill)
        self.assertEqual(many, math.comb(1004, 4))
        self.assertEqual(filling_at(lot, bill, 0), (0, 0, 0, 0, 1000))
        self.assertEqual(filling_at(lot, bill, many - 1), (1000, 0, 0, 0, 0))
        for place in (1, 999, 1000, 12345678, many // 2, many - 2):
            self.assertEqual(place_of(lot, bill, filling_at(lot, bill, place)), place)

    def test_no_place(self):
        for place in (-1, -2, -99, 4, 5, GREAT):
            self.refused(NoPlace, {"place": place}, filling_at, ((2,), (1,)), (6,), place)
        for place in (-1, 0, 1):
            self.refused(NoPlace, {"place": place}, filling_at, TWO, (1, 0), place)

    def test_no_filling_of_the_bill(self):
        for counts in [
            (), (1,), (1, 0), (1, 0, 0, 0), (0, 0, 0), (2, 0, 0), (1, 0, 1), (2, 0, -2), (-1, 0, 4), (1, -1, 3),
            (3, 1, 0),
        ]:
            with self.subTest(counts):
                self.refused(BadCounts, {"kind": -1}, place_of, TWO, (2, 0), counts)
        self.assertEqual(place_of(TWO, (2, 0), (1, 0, 0)), 0)
        self.refused(BadCounts, {"kind": -1}, place_of, TWO, (1, 0), (0, 0, 0))
        # Counts that come to the bill, one of them below 0.
        self.refused(BadCounts, {"kind": -1}, place_of, ((2,), (1,)), (3,), (2, -1))


class BoxTest(RefusingCase):
    def test_just_4000(self):
        for lot, bill, _ in EDGES:
            with self.subTest(lot, bill=bill):
                self.assertEqual(math.prod(amount + 1 for amount in bill), 4000)
                many = how_many(lot, bill)
                self.assertEqual(counts_of_bills(lot, bill).get(bill, 0), many)
                self.assertEqual(len(fillings(lot, bill, most=4000)), many)
                if many:
                    self.assertEqual(place_of(lot, bill, filling_at(lot, bill, many - 1)), many - 1)

    def test_beyond(self):
        for lot, _, bill in EDGES:
            with self.subTest(lot, bill=bill):
                self.refused(TooMany, {"most": 4000}, how_many, lot, bill)
                self.refused(TooMany, {"most": 4000}, fillings, lot, bill)
                self.refused(TooMany, {"most": 4000}, counts_of_bills, lot, bill)
                for place in (0, -1, GREAT):
                    self.refused(TooMany, {"most": 4000}, filling_at, lot, bill, place)
                for counts in ((0,) * len(lot), (), (-1,) * len(lot)):
                    self.refused(TooMany, {"most": 4000}, place_of, lot, bill, counts)

    def test_bad_bills_go_ahead(self):
        for bill, good in NO_BILLS:
            with self.subTest(bill):
                self.refused(BadBill, {"good": good}, how_many, TWO, bill)
                self.refused(BadBill, {"good": good}, fillings, TWO, bill, most=0)
                self.refused(BadBill, {"good": good}, filling_at, TWO, bill, -1)
                self.refused(BadBill, {"good": good}, place_of, TWO, bill, ())
                self.refused(BadBill, {"good": good}, counts_of_bills, TWO, bill)

    def test_bad_lots_go_first(self):
        for lot, kind in NO_LOTS:
            with self.subTest(lot):
                self.refused(BadLot, {"kind": kind}, how_many, lot, (-1,))
                self.refused(BadLot, {"kind": kind}, fillings, lot, (-1,), most=0)
                self.refused(BadLot, {"kind": kind}, filling_at, lot, (-1,), -1)
                self.refused(BadLot, {"kind": kind}, place_of, lot, (-1,), ())
                self.refused(BadLot, {"kind": kind}, counts_of_bills, lot, (-1,))
                self.refused(BadLot, {"kind": kind}, how_many_of_one, lot, -1)


class OneGoodTest(RefusingCase):
    LOTS = [
        ((1,),), ((6,),), ((2,), (3,)), ((4,), (6,)), ((5,), (5,)), ((6,), (5,), (4,)), ((1,), (2,), (3,), (4,), (5,)),
        ((6,), (6,), (6,), (6,), (6,)), ((2,), (3,), (4,), (5,), (6,)), ((1,),) * 5,
    ]

    def test_against_a_table(self):
        for lot in self.LOTS:
            table = [1] + [0] * 400
            for hold in lot:
                for amount in range(hold[0], 401):
                    table[amount] += table[amount - hold[0]]
            self.assertEqual([how_many_of_one(lot, amount) for amount in range(401)], table)

    def test_as_how_many(self):
        for lot in self.LOTS[:7]:
            self.assertEqual(how_many_of_one(lot, 3999), how_many(lot, (3999,)))

    def test_great_amounts(self):
        for lot in self.LOTS:
            for amount in (GREAT - 1, GREAT - 60, 10 ** 29, 123456789012345678901234567890, 10 ** 15 + 7):
                told = how_many_of_one(lot, amount)
                if len(lot) == 1:
                    self.assertEqual(told, int(amount % lot[0][0] == 0))
                    continue
                for kind, hold in enumerate(lot):
                    fewer = how_many_of_one(without(lot, kind), amount)
                    self.assertEqual(told, fewer + how_many_of_one(lot, amount - hold[0]))

    def test_great_amounts_by_a_formula(self):
        self.assertEqual(how_many_of_one(((1,),) * 5, GREAT - 1), math.comb(GREAT + 3, 4))
        self.assertEqual(how_many_of_one(((1,), (2,)), GREAT - 2), GREAT // 2)

    def test_other_goods(self):
        for lot in [((1, 1),), TWO, ((1, 0, 1), (0, 1, 0))]:
            for amount in (0, -1, GREAT):
                self.refused(OtherGoods, {}, how_many_of_one, lot, amount)

    def test_bad_amounts(self):
        for amount in (-1, -GREAT, GREAT, GREAT + 1):
            self.refused(BadBill, {"good": 0}, how_many_of_one, ((2,), (3,)), amount)


class HandedInTest(unittest.TestCase):
    def test_by_name(self):
        self.assertEqual(how_many(bill=(2, 0), lot=TWO), 1)
        self.assertEqual(fillings(most=1, bill=(2, 0), lot=TWO), [(1, 0, 0)])
        self.assertEqual(filling_at(place=0, bill=(2, 0), lot=TWO), (1, 0, 0))
        self.assertEqual(place_of(counts=(1, 0, 0), bill=(2, 0), lot=TWO), 0)
        self.assertEqual(counts_of_bills(bill=(0, 0), lot=TWO), {(0, 0): 1})
        self.assertEqual(how_many_of_one(amount=4, lot=((2,), (1,))), 3)

    def test_most_by_name_alone(self):
        with self.assertRaises(TypeError):
            fillings(TWO, (2, 0), 5)

    def test_what_is_told_is_the_askers_own(self):
        told = fillings(TWO, (4, 3))
        told.clear()
        self.assertEqual(fillings(TWO, (4, 3)), all_fillings(TWO, (4, 3)))
        table = counts_of_bills(TWO, (2, 0))
        table.clear()
        self.assertEqual(counts_of_bills(TWO, (2, 0)), {(0, 0): 1, (2, 0): 1})


if __name__ == "__main__":
    unittest.main()
