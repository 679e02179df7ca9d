"""Lots, bills, loads: hamperlot.lots."""

import itertools
import unittest

from hamperlot.errors import BadBill, BadCounts, BadLot, BadOrder, NoGood, NoKind, NoPlace
from hamperlot.lots import (
    GREAT, MOST_GOODS, MOST_HOLD, MOST_KINDS, beside, bill_of, goods_of, in_order, look_bill, look_lot, seen,
    with_kind, without,
)
from refusing import NO_LOTS, RefusingCase

TWO = ((2, 0), (0, 3), (1, 1))
ONE = ((3,), (5,))
FULL = ((1, 0, 0), (0, 1, 0), (0, 0, 1), (6, 6, 6), (1, 2, 3))


def plain_wrong_kind(lot):
    """The kind that BadLot tells, or None, said in another way than the program does."""
    if len(lot) not in (1, 2, 3, 4, 5) or len(lot[0]) not in (1, 2, 3):
        return -1
    wrong = [
        kind for kind, hold in enumerate(lot)
        if len(hold) != len(lot[0]) or set(hold) - {0, 1, 2, 3, 4, 5, 6} or set(hold) == {0}
    ]
    return wrong[0] if wrong else None


class ConstantsTest(unittest.TestCase):
    def test_constants(self):
        self.assertEqual((MOST_KINDS, MOST_GOODS, MOST_HOLD), (5, 3, 6))
        self.assertEqual(str(GREAT), "1" + "0" * 30)


class LookLotTest(RefusingCase):
    def test_lots(self):
        for lot in [TWO, ONE, FULL, ((1,),), ((6,),), ((0, 0, 1),), ((1, 1), (1, 1)), ((1,),) * 5, ((0, 1), (0, 2))]:
            with self.subTest(lot):
                self.assertIsNone(look_lot(lot))
                self.assertEqual(goods_of(lot), len(lot[0]))

    def test_no_lots(self):
        for lot, kind in NO_LOTS:
            with self.subTest(lot):
                self.refused(BadLot, {"kind": kind}, look_lot, lot)
                self.refused(BadLot, {"kind": kind}, goods_of, lot)

    def test_many_small_ones(self):
        holds = [hold for many in range(5) for hold in itertools.product((-1, 0, 6, 7), repeat=many)]
        for many in range(3):
            for lot in itertools.product(holds if many < 2 else holds[:40], repeat=many):
                wrong = plain_wrong_kind(lot)
                if wrong is None:
                    self.assertIsNone(look_lot(lot))
                else:
                    self.refused(BadLot, {"kind": wrong}, look_lot, lot)


class LookBillTest(RefusingCase):
    def test_bills(self):
        for bill in [(0, 0), (1, 0), (GREAT - 1, GREAT - 1), (7, 10 ** 20)]:
            with self.subTest(bill):
                self.assertIsNone(look_bill(TWO, bill))
        self.assertIsNone(look_bill(ONE, (GREAT - 1,)))
        self.assertIsNone(look_bill(FULL, (0, 0, 0)))

    def test_another_count(self):
        for bill in [(), (1,), (1, 1, 1), (-1,), (GREAT, -1, 0)]:
            with self.subTest(bill):
                self.refused(BadBill, {"good": -1}, look_bill, TWO, bill)

    def test_the_first_amount_that_is_not_so(self):
        for bill, good in [
            ((-1, 0), 0), ((0, -1), 1), ((-1, -1), 0), ((GREAT, 0), 0), ((0, GREAT), 1), ((GREAT - 1, GREAT), 1),
            ((GREAT + 1, -1), 0),
        ]:
            with self.subTest(bill):
                self.refused(BadBill, {"good": good}, look_bill, TWO, bill)
        self.refused(BadBill, {"good": 2}, look_bill, FULL, (0, 5, -2))

    def test_bad_lot_goes_first(self):
        for lot, kind in NO_LOTS:
            with self.subTest(lot):
                self.refused(BadLot, {"kind": kind}, look_bill, lot, (-1, -1, -1, -1))


class BillOfTest(RefusingCase):
    def test_with_nothing_loose(self):
        self.assertEqual(bill_of(TWO, (0, 0, 0)), (0, 0))
        self.assertEqual(bill_of(TWO, (1, 0, 0)), (2, 0))
        self.assertEqual(bill_of(TWO, (4, 2, 5)), (13, 11))
        self.assertEqual(bill_of(TWO, (4, 2, 5), loose=()), (13, 11))
        self.assertEqual(bill_of(ONE, (2, 7)), (41,))

    def test_with_loose_goods(self):
        self.assertEqual(bill_of(TWO, (4, 2, 5), loose=(0, 0)), (13, 11))
        self.assertEqual(bill_of(TWO, (4, 2, 5), loose=(1, 9)), (14, 20))
        self.assertEqual(bill_of(TWO, (0, 0, 0), loose=(8, 0)), (8, 0))
        self.assertEqual(bill_of(FULL, (1, 2, 3, 1, 1), loose=(10, 20, 30)), (18, 30, 42))

    def test_sums_of_great_and_more(self):
        self.assertEqual(bill_of(((1,), (1,)), (GREAT - 1, 1)), (GREAT,))
        self.assertEqual(bill_of(((1,),), (GREAT - 1,), loose=(1,)), (GREAT,))
        self.assertEqual(bill_of(TWO, (GREAT - 1, 0, 1), loose=(0, GREAT - 1)), (2 * GREAT - 1, GREAT))
        self.assertEqual(bill_of(((6,),) * 5, (GREAT - 1,) * 5), (30 * GREAT - 30,))

    def test_bad_counts(self):
        for counts, kind in [
            ((), -1), ((1, 1), -1), ((1, 1, 1, 1), -1), ((-1,), -1),
            ((-1, 0, 0), 0), ((0, -1, -1), 1), ((0, 0, -5), 2), ((GREAT, 0, 0), 0), ((0, 0, GREAT), 2),
            ((0, GREAT + 7, -1), 1), ((GREAT - 1, GREAT - 1, GREAT), 2),
        ]:
            with self.subTest(counts):
                self.refused(BadCounts, {"kind": kind}, bill_of, TWO, counts)
                self.refused(BadCounts, {"kind": kind}, bill_of, TWO, counts, loose=(-1,))

    def test_bad_loose_goods(self):
        for loose, good in [
            ((1,), -1), ((1, 1, 1), -1), ((-1, -1), 0), ((0, -1), 1), ((GREAT, 0), 0), ((0, GREAT), 1),
        ]:
            with self.subTest(loose):
                self.refused(BadBill, {"good": good}, bill_of, TWO, (1, 1, 1), loose=loose)

    def test_bad_lot_goes_first(self):
        for lot, kind in NO_LOTS:
            with self.subTest(lot):
                self.refused(BadLot, {"kind": kind}, bill_of, lot, (-1,), loose=(-1,))
                self.refused(BadLot, {"kind": kind}, bill_of, lot, (1, 1), loose=(-1,))


class WithKindTest(RefusingCase):
    def test_each_place(self):
        hold = (6, 5)
        self.assertEqual(with_kind(TWO, hold, at=0), ((6, 5), (2, 0), (0, 3), (1, 1)))
        self.assertEqual(with_kind(TWO, hold, at=1), ((2, 0), (6, 5), (0, 3), (1, 1)))
        self.assertEqual(with_kind(TWO, hold, at=2), ((2, 0), (0, 3), (6, 5), (1, 1)))
        self.assertEqual(with_kind(TWO, hold, at=3), ((2, 0), (0, 3), (1, 1), (6, 5)))
        self.assertEqual(with_kind(TWO, hold, at=-1), ((2, 0), (0, 3), (1, 1), (6, 5)))
        self.assertEqual(with_kind(TWO, hold), ((2, 0), (0, 3), (1, 1), (6, 5)))

    def test_a_kind_alike(self):
        self.assertEqual(with_kind(ONE, (3,), at=1), ((3,), (3,), (5,)))

    def test_the_fifth_kind(self):
        self.assertEqual(with_kind(FULL[:4], FULL[4]), FULL)

    def test_no_place(self):
        for at in (-2, -3, -99, 4, 5, 99):
            with self.subTest(at):
                self.refused(NoPlace, {"place": at}, with_kind, TWO, (1, 1), at=at)
                self.refused(NoPlace, {"place": at}, with_kind, TWO, (), at=at)
        self.refused(NoPlace, {"place": 6}, with_kind, FULL, (1, 1, 1), at=6)

    def test_bad_lot_as_of_the_new_lot(self):
        for at, hold, kind in [
            (-1, (), 3), (-1, (1,), 3), (-1, (1, 1, 1), 3), (-1, (0, 0), 3), (-1, (7, 0), 3), (-1, (0, -1), 3),
            (1, (), 1), (2, (1, 1, 1, 1), 2), (1, (0, 0), 1),
            # Ahead of all, it tells how many goods there are.
            (0, (), -1), (0, (1, 1, 1, 1), -1), (0, (1,), 1), (0, (1, 1, 1), 1), (0, (0, 0), 0), (0, (0,), 0),
            (0, (7, 7, 7), 0),
        ]:
            with self.subTest(at=at, hold=hold):
                self.refused(BadLot, {"kind": kind}, with_kind, TWO, hold, at=at)

    def test_too_many_kinds(self):
        for at in range(-1, 6):
            with self.subTest(at):
                self.refused(BadLot, {"kind": -1}, with_kind, FULL, (1, 1, 1), at=at)
                self.refused(BadLot, {"kind": -1}, with_kind, FULL, (0,), at=at)

    def test_bad_lot_goes_first(self):
        for lot, kind in NO_LOTS:
            with self.subTest(lot):
                self.refused(BadLot, {"kind": kind}, with_kind, lot, (1,), at=-7)
                self.refused(BadLot, {"kind": kind}, with_kind, lot, (1,), at=0)


class WithoutTest(RefusingCase):
    def test_each_kind(self):
        self.assertEqual(without(TWO, 0), ((0, 3), (1, 1)))
        self.assertEqual(without(TWO, 1), ((2, 0), (1, 1)))
        self.assertEqual(without(TWO, 2), ((2, 0), (0, 3)))
        self.assertEqual(without(((0, 1), (0, 2)), 1), ((0, 1),))

    def test_no_kind(self):
        for kind in (-1, -2, -3, 3, 4, 99):
            with self.subTest(kind):
                self.refused(NoKind, {"kind": kind}, without, TWO, kind)
        self.refused(NoKind, {"kind": 1}, without, ((1,),), 1)
        self.refused(NoKind, {"kind": -1}, without, ((1,),), -1)

    def test_the_last_one(self):
        self.refused(BadLot, {"kind": -1}, without, ((1,),), 0)
        self.refused(BadLot, {"kind": -1}, without, ((1, 2, 3),), 0)

    def test_bad_lot_goes_first(self):
        for lot, kind in NO_LOTS:
            with self.subTest(lot):
                self.refused(BadLot, {"kind": kind}, without, lot, -9)
                self.refused(BadLot, {"kind": kind}, without, lot, 0)


class InOrderTest(RefusingCase):
    def test_orders(self):
        self.assertEqual(in_order(TWO, (0, 1, 2)), TWO)
        self.assertEqual(in_order(TWO, (1, 2, 0)), ((0, 3), (1, 1), (2, 0)))
        self.assertEqual(in_order(TWO, (2, 0, 1)), ((1, 1), (2, 0), (0, 3)))
        self.assertEqual(in_order(((4,),), (0,)), ((4,),))

    def test_at_each_place_stands_the_kind_told(self):
        for order in itertools.permutations(range(5)):
            turned = in_order(FULL, order)
            for place in range(5):
                self.assertEqual(turned[place], FULL[order[place]])

    def test_bad_orders(self):
        for order in [
            (), (0,), (0, 1), (0, 1, 2, 3), (0, 1, 1), (0, 0, 0), (1, 2, 3), (0, 1, -1), (0, 1, 3), (0, 1, 2, 2),
            (-3, -2, -1),
        ]:
            with self.subTest(order):
                self.refused(BadOrder, {}, in_order, TWO, order)

    def test_bad_lot_goes_first(self):
        for lot, kind in NO_LOTS:
            with self.subTest(lot):
                self.refused(BadLot, {"kind": kind}, in_order, lot, (9,))
                self.refused(BadLot, {"kind": kind}, in_order, lot, tuple(range(len(lot))))


class SeenTest(RefusingCase):
    def test_some_goods(self):
        lot = ((1, 2, 3), (4, 5, 6))
        self.assertEqual(seen(lot, (0, 1, 2)), lot)
        self.assertEqual(seen(lot, (2, 0)), ((3, 1), (6, 4)))
        self.assertEqual(seen(lot, (1,)), ((2,), (5,)))
        self.assertEqual(seen(lot, (2, 1, 0)), ((3, 2, 1), (6, 5, 4)))

    def test_no_good(self):
        for goods, good in [
            ((2,), 2), ((-1,), -1), ((0, -2), -2), ((5, -1), 5), ((0, 0), 0), ((1, 0, 1), 1), ((0, 1, 0, 9), 0),
            ((1, 1, 9), 1), ((9, 1, 1), 9), ((9, 9), 9),
        ]:
            with self.subTest(goods):
                self.refused(NoGood, {"good": good}, seen, TWO, goods)

    def test_bad_lot_as_of_the_new_lot(self):
        self.refused(BadLot, {"kind": -1}, seen, TWO, ())
        self.refused(BadLot, {"kind": 1}, seen, TWO, (0,))
        self.refused(BadLot, {"kind": 0}, seen, TWO, (1,))
        self.refused(BadLot, {"kind": 2}, seen, ((1, 0, 1), (0, 1, 1), (0, 0, 1)), (1, 0))

    def test_no_good_ahead_of_the_new_lot(self):
        self.refused(NoGood, {"good": 0}, seen, TWO, (0, 0))
        self.refused(NoGood, {"good": 7}, seen, TWO, (0, 7))

    def test_bad_lot_goes_first(self):
        for lot, kind in NO_LOTS:
            with self.subTest(lot):
                self.refused(BadLot, {"kind": kind}, seen, lot, (9,))
                self.refused(BadLot, {"kind": kind}, seen, lot, ())


class BesideTest(RefusingCase):
    def test_two_lots(self):
        self.assertEqual(beside(TWO, ((4,), (5,))), ((2, 0, 0), (0, 3, 0), (1, 1, 0), (0, 0, 4), (0, 0, 5)))
        self.assertEqual(beside(((4,), (5,)), TWO), ((4, 0, 0), (5, 0, 0), (0, 2, 0), (0, 0, 3), (0, 1, 1)))
        self.assertEqual(beside(((1,),), ((1,),)), ((1, 0), (0, 1)))

    def test_one_lot_beside_itself(self):
        self.assertEqual(beside(ONE, ONE), ((3, 0), (5, 0), (0, 3), (0, 5)))

    def test_bad_lot_as_of_the_new_lot(self):
        self.refused(BadLot, {"kind": -1}, beside, TWO, ONE + ((1,),))
        self.refused(BadLot, {"kind": -1}, beside, ((1,),) * 5, ((1,),))
        self.refused(BadLot, {"kind": -1}, beside, ((1, 1),), ((1, 1),))
        self.refused(BadLot, {"kind": -1}, beside, FULL, ((1,),))

    def test_the_left_one_first(self):
        for lot, kind in NO_LOTS:
            with self.subTest(lot):
                self.refused(BadLot, {"kind": kind}, beside, lot, ONE)
                self.refused(BadLot, {"kind": kind}, beside, ONE, lot)
                self.refused(BadLot, {"kind": kind}, beside, lot, ((1,), (1,), (1,), (0,)))
        self.refused(BadLot, {"kind": 1}, beside, ((1,), (0,)), ())
        self.refused(BadLot, {"kind": 0}, beside, ((0,),), ((1,), (0,)))

    def test_the_other_one_ahead_of_the_new_lot(self):
        # The new lot would have too many kinds, and its first wrong kind another number.
        self.refused(BadLot, {"kind": 1}, beside, FULL, ((1,), (0,)))
        self.refused(BadLot, {"kind": 0}, beside, ONE, ((0,),))


class HandedInTest(unittest.TestCase):
    def test_by_place_and_by_name(self):
        self.assertIsNone(look_lot(lot=ONE))
        self.assertEqual(goods_of(lot=TWO), 2)
        self.assertIsNone(look_bill(bill=(1, 1), lot=TWO))
        self.assertEqual(bill_of(loose=(1,), counts=(1, 0), lot=ONE), (4,))
        self.assertEqual(with_kind(at=0, hold=(1,), lot=ONE), ((1,), (3,), (5,)))
        self.assertEqual(without(kind=0, lot=ONE), ((5,),))
        self.assertEqual(in_order(order=(1, 0), lot=ONE), ((5,), (3,)))
        self.assertEqual(seen(goods=(0,), lot=ONE), ONE)
        self.assertEqual(beside(other=((2,),), one=((1,),)), ((1, 0), (0, 2)))

    def test_behind_a_star_by_name_alone(self):
        with self.assertRaises(TypeError):
            bill_of(ONE, (1, 0), (1,))
        with self.assertRaises(TypeError):
            with_kind(ONE, (1,), 0)

    def test_tuples_are_told(self):
        for told in [
            bill_of(TWO, (1, 1, 1)), with_kind(ONE, (1,)), without(ONE, 0), in_order(ONE, (1, 0)), seen(TWO, (1, 0)),
            beside(ONE, ONE),
        ]:
            self.assertIs(type(told), tuple)
        for lot in [with_kind(ONE, (1,)), without(ONE, 0), in_order(ONE, (1, 0)), seen(TWO, (1, 0)), beside(ONE, ONE)]:
            self.assertEqual({type(hold) for hold in lot}, {tuple})

    def test_nothing_is_changed(self):
        bill_of(TWO, (1, 1, 1), loose=(1, 1))
        with_kind(TWO, (1, 1), at=0)
        without(TWO, 0)
        in_order(TWO, (2, 1, 0))
        seen(TWO, (1, 0))
        beside(TWO, ONE)
        self.assertEqual((TWO, ONE), (((2, 0), (0, 3), (1, 1)), ((3,), (5,))))


if __name__ == "__main__":
    unittest.main()
