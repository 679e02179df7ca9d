"""Prices, rests and gaps, and what lots fill alike: hamperlot.barring."""

import fractions
import itertools
import math
import random
import unittest

from hamperlot.barring import gaps, measure, prices, prices_hold, rests, rests_hold, unlike, why_not
from hamperlot.betterings import best_filling, best_load
from hamperlot.counting import how_many_of_one
from hamperlot.errors import BadBill, BadLot, Filled, OtherGoods
from hamperlot.lots import GREAT, in_order
from plain import FEW, all_bills, all_fillings, goods_in, plain_best, plus, some_lots
from refusing import NO_LOTS, RefusingCase

TWO = ((2, 0), (0, 3), (1, 1))
BOXES = {1: (14,), 2: (6, 6), 3: (3, 4, 3)}
# On a line, in a plane, with kinds alike and goods that no kind has.
FLAT = [
    ((1, 2),), ((2, 4), (3, 6)), ((0, 3),), ((2, 0), (3, 0)), ((1, 1, 1),), ((2, 4, 6), (1, 2, 3)), ((0, 2, 0),),
    ((1, 0, 1), (0, 1, 1)), ((2, 0, 0), (0, 3, 0)), ((1, 2, 3), (3, 2, 1), (2, 2, 2)), ((6, 6, 6), (4, 4, 4)),
    ((0, 2, 4), (0, 3, 1), (0, 6, 6)), ((2, 2, 0), (2, 2, 0), (0, 0, 5)), ((6, 0, 0), (0, 6, 0), (0, 0, 6)),
]
NO_BILLS = [
    ((), -1), ((1,), -1), ((1, 1, 1), -1), ((-1, 0), 0), ((0, -1), 1), ((-1, -1), 0), ((GREAT, 0), 0), ((0, GREAT), 1),
]
BILL_FUNCTIONS = [(prices, ()), (rests, ()), (why_not, ()), (prices_hold, ((),)), (rests_hold, (((), 0),))]


def dot(one, other):
    return sum(a * b for a, b in zip(one, other))


def shares_of(kinds, bill):
    """The shares of kinds that come to a bill, where there is just one such row of shares, else None."""
    rows = [[fractions.Fraction(hold[good]) for hold in kinds] + [fractions.Fraction(bill[good])]
            for good in range(len(bill))]
    for place in range(len(kinds)):
        below = [at for at in range(place, len(rows)) if rows[at][place]]
        if not below:
            return None
        rows[place], rows[below[0]] = rows[below[0]], rows[place]
        rows[place] = [number / rows[place][place] for number in rows[place]]
        for at, row in enumerate(rows):
            if at != place:
                rows[at] = [a - row[place] * b for a, b in zip(row, rows[place])]
    if any(row[-1] for row in rows[len(kinds):]):
        return None
    return [row[-1] for row in rows[:len(kinds)]]


def shares_come_to(lot, bill):
    """Whether shares of kinds, none below 0, come to a bill: if any do, some of as many kinds as goods do."""
    for many in range(len(bill) + 1):
        for kinds in itertools.combinations(lot, many):
            shares = shares_of(kinds, bill)
            if shares is not None and min(shares, default=0) >= 0:
                return True
    return False


def whole_bills(lot, most, box):
    """All bills of a box to which whole numbers of kinds, of any sign, none greater in size than the most, come."""
    told = set()
    for counts in itertools.product(range(-most, most + 1), repeat=len(lot)):
        bill = goods_in(lot, counts)
        if all(0 <= a <= b for a, b in zip(bill, box)):
            told.add(bill)
    return told


def minor(rows):
    """The determinant of rows."""
    if not rows:
        return 1
    return sum((-1) ** at * number * minor([row[:at] + row[at + 1:] for row in rows[1:]])
               for at, number in enumerate(rows[0]))


def measure_of(rows):
    """How many directions rows have, and the greatest number that goes into all their minors of so many."""
    for many in range(len(rows[0]), 0, -1):
        by = 0
        for some in itertools.combinations(rows, many):
            for goods in itertools.combinations(range(len(rows[0])), many):
                by = math.gcd(by, minor([tuple(row[good] for good in goods) for row in some]))
        if by:
            return many, by
    return 0, 0


def whole_numbers_come_to(lot, bill):
    """Whether whole numbers of kinds, of any sign, come to a bill: then it changes no measure beside them."""
    return measure_of(lot) == measure_of((*lot, bill))


class PaperCase(RefusingCase):
    def look_prices(self, lot, bill, paper):
        """By plain sums."""
        self.assertIs(type(paper), tuple)
        self.assertEqual(len(paper), len(bill))
        self.assertTrue(all(type(number) is int for number in paper))
        self.assertLess(dot(paper, bill), 0)
        for hold in lot:
            self.assertGreaterEqual(dot(paper, hold), 0)
        self.assertIs(prices_hold(lot, bill, paper), True)

    def look_rests(self, lot, bill, paper):
        """By plain sums."""
        self.assertIs(type(paper), tuple)
        row, by = paper
        self.assertIs(type(row), tuple)
        self.assertEqual(len(row), len(bill))
        self.assertTrue(all(type(number) is int for number in (*row, by)))
        self.assertGreater(by, 1)
        self.assertNotEqual(dot(row, bill) % by, 0)
        for hold in lot:
            self.assertEqual(dot(row, hold) % by, 0)
        self.assertIs(rests_hold(lot, bill, paper), True)


class PricesTest(PaperCase):
    def test_small_bills(self):
        for lot in FEW + FLAT + some_lots(71, 60):
            for bill in all_bills(BOXES[len(lot[0])]):
                paper = prices(lot, bill)
                with self.subTest(lot, bill=bill):
                    if shares_come_to(lot, bill):
                        self.assertIsNone(paper)
                    else:
                        self.look_prices(lot, bill, paper)

    def test_shares_by_the_plain_way_of_many(self):
        """The plain way above is itself looked at: shares of sixths by all counts."""
        for lot in [((2, 0), (1, 1)), ((1, 2), (2, 1), (3, 3)), ((1, 1, 0), (0, 1, 1))]:
            whole = {goods_in(lot, counts) for counts in itertools.product(range(25), repeat=len(lot))}
            for bill in all_bills((3, 3, 3)[:len(lot[0])]):
                told = tuple(6 * amount for amount in bill) in whole
                self.assertEqual(shares_come_to(lot, bill), told, (lot, bill))

    def test_great_bills(self):
        draw = random.Random(72)
        for lot in FEW + FLAT + some_lots(73, 120):
            amounts = [GREAT - 1, draw.randrange(GREAT), draw.randrange(10 ** 20), draw.randrange(30), 0, 1]
            bill = tuple(draw.choice(amounts) for _ in lot[0])
            paper = prices(lot, bill)
            with self.subTest(lot, bill=bill):
                if shares_come_to(lot, bill):
                    self.assertIsNone(paper)
                else:
                    self.look_prices(lot, bill, paper)

    def test_great_shares_of_kinds(self):
        """A seventh of a filling has no prices."""
        draw = random.Random(74)
        for lot in FEW + FLAT + some_lots(75, 80):
            bill = None
            while bill is None:
                counts = [draw.choice((0, draw.randrange(10 ** 28), draw.randrange(50))) for _ in lot]
                goods = goods_in(lot, counts)
                by = draw.choice((1, 2, 3, 7))
                if all(amount % by == 0 for amount in goods):
                    bill = tuple(amount // by for amount in goods)
            self.assertIsNone(prices(lot, bill), (lot, bill))

    def test_some(self):
        self.assertIsNone(prices(((4,), (6,)), (1,)))
        self.assertIsNone(prices(TWO, (0, 0)))
        self.look_prices(((1, 2),), (1, 1), prices(((1, 2),), (1, 1)))
        self.look_prices(((2, 1), (1, 2)), (GREAT - 1, 1), prices(((2, 1), (1, 2)), (GREAT - 1, 1)))
        self.assertIsNone(prices(((2, 1), (1, 2)), (GREAT - 2, (GREAT - 2) // 2)))
        # On the very edge, and one beside it.
        half = (GREAT - 2) // 2
        self.look_prices(((2, 1), (1, 2)), (2 * half + 1, half), prices(((2, 1), (1, 2)), (2 * half + 1, half)))

    def test_holding(self):
        lot, bill = ((2, 1), (1, 2)), (5, 1)
        self.assertIs(prices_hold(lot, bill, (-1, 2)), True)
        self.assertIs(prices_hold(lot, bill, (-30, 61)), True)
        self.assertIs(prices_hold(lot, bill, (-2, 4)), True)
        self.assertIs(prices_hold(lot, bill, (-1, 1)), False)
        self.assertIs(prices_hold(lot, bill, (-1, 5)), False)
        self.assertIs(prices_hold(lot, bill, (0, 0)), False)
        self.assertIs(prices_hold(lot, bill, (1, -2)), False)
        for paper in [(), (-1,), (-1, 2, 0), (-1, 2, 5), (-1, 2, 0, 0, 0)]:
            self.assertIs(prices_hold(lot, bill, paper), False, paper)
        self.assertIs(prices_hold(lot, (4, 2), (-1, 2)), False)
        self.assertIs(prices_hold(lot, (5, 1), (-GREAT * 10 ** 9, 2 * GREAT * 10 ** 9)), True)

    def test_holding_against_all_small_papers(self):
        for lot in [TWO, ((2, 1), (1, 2)), ((1, 1),), ((3, 0), (0, 2))]:
            for bill in all_bills((3, 3)):
                for paper in itertools.product(range(-3, 4), repeat=2):
                    told = all(dot(paper, hold) >= 0 for hold in lot) and dot(paper, bill) < 0
                    self.assertIs(prices_hold(lot, bill, paper), told, (lot, bill, paper))


class RestsTest(PaperCase):
    def test_small_bills(self):
        for lot in [lot for lot in FEW + FLAT + some_lots(76, 60, kinds=(1, 2, 3), hold=4) if len(lot) < 4]:
            box = BOXES[len(lot[0])]
            whole = whole_bills(lot, 16 if len(lot) == 3 else 40, box)
            for bill in all_bills(box):
                paper = rests(lot, bill)
                with self.subTest(lot, bill=bill):
                    self.assertEqual(bill in whole, whole_numbers_come_to(lot, bill))
                    if bill in whole:
                        self.assertIsNone(paper)
                    else:
                        self.look_rests(lot, bill, paper)

    def test_great_sums_of_kinds_of_any_sign(self):
        draw = random.Random(77)
        for lot in FEW + FLAT + some_lots(78, 150):
            found = 0
            while found < 3:
                counts = [draw.choice((0, 1, -1, draw.randint(-9, 99), draw.randint(-10 ** 27, 10 ** 28))) for _ in lot]
                bill = goods_in(lot, counts)
                if min(bill) >= 0:
                    found += 1
                    self.assertIsNone(rests(lot, bill), (lot, bill))

    def test_great_bills(self):
        draw = random.Random(79)
        some = none = 0
        for lot in FEW + FLAT + some_lots(80, 150):
            for _ in range(4):
                amounts = [GREAT - 1, draw.randrange(GREAT), draw.randrange(10 ** 20), draw.randrange(30), 0, 1]
                bill = tuple(draw.choice(amounts) for _ in lot[0])
                paper = rests(lot, bill)
                if whole_numbers_come_to(lot, bill):
                    none += 1
                    self.assertIsNone(paper, (lot, bill))
                else:
                    some += 1
                    self.look_rests(lot, bill, paper)
        self.assertGreater(some, 200)
        self.assertGreater(none, 50)

    def test_one_good(self):
        """Of one good there are no rests just for multiples of the measure."""
        for lot in [((4,), (6,)), ((6,),), ((3,), (6,)), ((2,), (3,)), ((4,), (4,), (6,)), ((1,),), ((6,), (4,), (3,))]:
            by = math.gcd(*[hold[0] for hold in lot])
            for amount in [*range(20), GREAT - 1, GREAT - 2, GREAT - 4, 10 ** 29 + 2]:
                paper = rests(lot, (amount,))
                if amount % by == 0:
                    self.assertIsNone(paper)
                else:
                    self.look_rests(lot, (amount,), paper)

    def test_bills_beside_the_plane_of_all_kinds(self):
        for lot in [((1, 2),), ((1, 1, 1),), ((1, 0, 1), (0, 1, 1)), ((0, 2, 0),), ((2, 0, 0), (0, 3, 0))]:
            for bill in [(GREAT - 1,) * len(lot[0]), (0,) * (len(lot[0]) - 1) + (27720 * 10 ** 25,), (720720, 0, 0)]:
                bill = bill[:len(lot[0])]
                if not shares_come_to(lot, bill):
                    self.look_rests(lot, bill, rests(lot, bill))

    def test_holding(self):
        lot, bill = ((2, 0), (0, 3)), (1, 1)
        self.assertIs(rests_hold(lot, bill, ((1, 0), 2)), True)
        self.assertIs(rests_hold(lot, bill, ((0, 1), 3)), True)
        self.assertIs(rests_hold(lot, bill, ((3, 2), 6)), True)
        self.assertIs(rests_hold(lot, bill, ((-1, 0), 2)), True)
        self.assertIs(rests_hold(lot, bill, ((1 + 2 * GREAT, 0), 2)), True)
        self.assertIs(rests_hold(lot, bill, ((3, 2), 5)), False)
        self.assertIs(rests_hold(lot, bill, ((0, 1), 2)), False)
        self.assertIs(rests_hold(lot, bill, ((0, 0), 2)), False)
        self.assertIs(rests_hold(lot, (2, 3), ((1, 0), 2)), False)
        for by in (1, 0, -1, -2, -3, -GREAT):
            self.assertIs(rests_hold(lot, bill, ((1, 0), by)), False, by)
        for row in [(), (1,), (1, 0, 0), (1, 0, 2), (1, 0, 0, 0)]:
            self.assertIs(rests_hold(lot, bill, (row, 2)), False, row)

    def test_holding_against_all_small_papers(self):
        for lot in [TWO, ((2, 0), (0, 3)), ((2, 2),), ((2, 1), (1, 2))]:
            for bill in all_bills((3, 3)):
                for one, other, by in itertools.product(range(-1, 4), range(-1, 4), range(-2, 5)):
                    row = (one, other)
                    told = by > 1 and all(dot(row, hold) % by == 0 for hold in lot) and dot(row, bill) % by != 0
                    self.assertIs(rests_hold(lot, bill, (row, by)), told, (lot, bill, row, by))


class WhyNotTest(PaperCase):
    def look_why(self, lot, bill, told):
        word, paper = told
        self.assertIs(type(told), tuple)
        if word == "prices":
            self.look_prices(lot, bill, paper)
        elif word == "rests":
            self.assertIsNone(prices(lot, bill))
            self.look_rests(lot, bill, paper)
        else:
            self.assertEqual(word, "gap")
            self.assertIsNone(prices(lot, bill))
            self.assertIsNone(rests(lot, bill))

    def test_each_bill_of_a_small_box(self):
        words = {"prices": 0, "rests": 0, "gap": 0}
        for lot in FEW + FLAT + some_lots(81, 12, kinds=(2, 3, 4)):
            for bill in all_bills(BOXES[len(lot[0])]):
                with self.subTest(lot, bill=bill):
                    if all_fillings(lot, bill):
                        self.refused(Filled, {}, why_not, lot, bill)
                        self.assertIsNone(prices(lot, bill))
                        self.assertIsNone(rests(lot, bill))
                        continue
                    told = why_not(lot, bill)
                    words[told[0]] += 1
                    self.look_why(lot, bill, told)
                    if told[0] == "gap":
                        self.assertEqual(told[1], plain_best(lot, bill, ()))
        self.assertGreater(min(words.values()), 20, words)

    def test_great_bills(self):
        draw = random.Random(82)
        words = set()
        for lot in FEW + FLAT + some_lots(83, 60):
            amounts = [GREAT - 1, draw.randrange(GREAT), draw.randrange(10 ** 20), draw.randrange(30), 0]
            counts = [draw.choice((0, 1, draw.randrange(10 ** 28))) for _ in lot]
            for bill in (tuple(draw.choice(amounts) for _ in lot[0]), goods_in(lot, counts)):
                with self.subTest(lot, bill=bill):
                    if best_filling(lot, bill) is not None:
                        words.add("filled")
                        self.refused(Filled, {}, why_not, lot, bill)
                    else:
                        told = why_not(lot, bill)
                        words.add(told[0])
                        self.look_why(lot, bill, told)
            self.refused(Filled, {}, why_not, lot, goods_in(lot, counts))
        self.assertLessEqual({"filled", "prices", "rests"}, words)

    def test_a_gap_of_a_great_bill(self):
        """One hamper of a good's own kind is too little, whatever the other good is."""
        lot = ((2, 0), (1, 2), (1, 3))
        bill = (2 * (GREAT // 4), 1)
        self.assertEqual(why_not(lot, bill), ("gap", best_load(lot, bill)))
        self.assertEqual(best_load(lot, bill), ((GREAT // 4, 0, 0), (0, 1)))

    def test_some(self):
        self.assertEqual(why_not(((4,), (6,)), (2,)), ("gap", ((0, 0), (2,))))
        self.assertEqual(why_not(((3,), (5,)), (7,)), ("gap", ((2, 0), (1,))))
        self.assertEqual(why_not(((4,), (6,)), (5,))[0], "rests")
        self.assertEqual(why_not(((1, 2),), (2, 3))[0], "prices")
        # Barred by both: prices go first.
        self.assertIsNotNone(rests(((2, 2),), (1, 2)))
        self.assertEqual(why_not(((2, 2),), (1, 2))[0], "prices")
        self.refused(Filled, {}, why_not, TWO, (0, 0))
        self.refused(Filled, {}, why_not, TWO, (6, 6))


class OneGoodTest(RefusingCase):
    def test_against_a_plain_table(self):
        draw = random.Random(84)
        rows = [row for many in (1, 2, 3) for row in itertools.product(range(1, 7), repeat=many)]
        rows += [tuple(draw.randint(1, 6) for _ in range(many)) for many in (4, 5) for _ in range(40)]
        for row in rows:
            lot = tuple((amount,) for amount in row)
            by = math.gcd(*row)
            filled = [True]
            for amount in range(1, 300):
                filled.append(any(hold <= amount and filled[amount - hold] for hold in row))
            self.assertEqual(measure(lot), by)
            told = gaps(lot)
            self.assertIs(type(told), list)
            self.assertEqual(told, [amount for amount in range(0, 300, by) if not filled[amount]], lot)

    def test_great_multiples_are_filled(self):
        for lot in [((4,), (6,)), ((6,), (5,)), ((6,), (4,), (3,)), ((6,), (6,)), ((3,), (6,), (3,), (6,))]:
            for amount in [GREAT - 1, GREAT - 2, 10 ** 29, 10 ** 15 + 3, 600]:
                most = amount - amount % measure(lot)
                self.assertEqual(best_load(lot, (most,))[1], (0,))
                self.assertGreater(how_many_of_one(lot, most), 0)
                self.refused(Filled, {}, why_not, lot, (most,))

    def test_each_gap_is_one(self):
        for lot in [((4,), (6,)), ((6,), (5,)), ((5,), (6,), (4,)), ((3,), (4,)), ((6,), (4,), (6,))]:
            for amount in gaps(lot):
                self.assertEqual(why_not(lot, (amount,))[0], "gap")

    def test_some(self):
        self.assertEqual(gaps(((6,), (5,))), [1, 2, 3, 4, 7, 8, 9, 13, 14, 19])
        self.assertEqual(gaps(((4,), (6,))), [2])
        self.assertEqual(gaps(((6,),)), [])
        self.assertEqual(gaps(((1,), (6,))), [])
        self.assertEqual(measure(((6,), (4,))), 2)
        self.assertEqual(measure(((6,),)), 6)
        self.assertEqual(measure(((6,), (4,), (3,))), 1)

    def test_a_new_list_each_time(self):
        gaps(((6,), (5,))).clear()
        self.assertEqual(len(gaps(((6,), (5,)))), 10)

    def test_other_goods(self):
        for function in (measure, gaps):
            for lot in (TWO, ((1, 1),), ((1, 0), (2, 0)), ((1, 2, 3),)):
                self.refused(OtherGoods, {}, function, lot)
            for lot, kind in NO_LOTS:
                self.refused(BadLot, {"kind": kind}, function, lot)


class UnlikeTest(RefusingCase):
    def test_lots_that_fill_the_same_bills(self):
        draw = random.Random(85)
        for lot in FEW + FLAT + some_lots(86, 30, kinds=(1, 2, 3, 4)):
            order = list(range(len(lot)))
            draw.shuffle(order)
            likes = [lot, in_order(lot, tuple(order))]
            if len(lot) < 5:
                likes.append((*lot, draw.choice(lot)))
                sums = [plus(a, b) for a in lot for b in lot if max(plus(a, b)) <= 6]
                likes += [(*lot, hold) for hold in sums] + [(hold, *lot) for hold in sums]
            for one, other in itertools.product(likes, likes[:3]):
                self.assertIsNone(unlike(one, other), (one, other))

    def test_lots_that_do_not(self):
        lots = FEW + FLAT + some_lots(87, 60)
        found = {0: 0, 1: 0}
        for goods in (1, 2, 3):
            some = [lot for lot in lots if len(lot[0]) == goods]
            for one, other in itertools.product(some[:18], some):
                told = unlike(one, other)
                if told is None:
                    for hold in one:
                        self.assertTrue(all_fillings(other, hold))
                    for hold in other:
                        self.assertTrue(all_fillings(one, hold))
                    continue
                self.assertIs(type(told), tuple)
                bill, which = told
                found[which] += 1
                self.assertIs(type(bill), tuple)
                self.assertTrue(all_fillings((one, other)[which], bill), (one, other))
                self.assertFalse(all_fillings((other, one)[which], bill), (one, other))
        self.assertGreater(min(found.values()), 50)

    def test_some(self):
        self.assertEqual(unlike(((2,),), ((4,),)), ((2,), 0))
        self.assertEqual(unlike(((4,),), ((2,),)), ((2,), 1))
        self.assertIsNone(unlike(((2,), (3,), (6,)), ((3,), (2,))))
        # Of as many rests and shares, but not the same bills.
        self.assertIsNotNone(unlike(((2,), (3,)), ((1,),)))
        self.assertIn(unlike(((2, 0), (0, 3)), ((0, 2), (3, 0)))[1], (0, 1))

    def test_refusals(self):
        for one, other in [(((1,),), TWO), (TWO, ((1,),)), (TWO, ((1, 1, 1),)), (((1, 1, 1),), ((1,),))]:
            self.refused(OtherGoods, {}, unlike, one, other)
        for lot, kind in NO_LOTS:
            self.refused(BadLot, {"kind": kind}, unlike, lot, TWO)
            self.refused(BadLot, {"kind": kind}, unlike, ((1,),), lot)
            self.refused(BadLot, {"kind": kind}, unlike, lot, ((1,), (0,)))
        self.refused(BadLot, {"kind": 1}, unlike, ((1,), (7,)), ())


class RefusalsTest(RefusingCase):
    def test_bad_bills(self):
        for function, further in BILL_FUNCTIONS:
            for bill, good in NO_BILLS:
                self.refused(BadBill, {"good": good}, function, TWO, bill, *further)

    def test_bad_lots_ahead_of_bad_bills(self):
        for function, further in BILL_FUNCTIONS:
            for lot, kind in NO_LOTS:
                self.refused(BadLot, {"kind": kind}, function, lot, (), *further)
                self.refused(BadLot, {"kind": kind}, function, lot, (-1,), *further)


if __name__ == "__main__":
    unittest.main()
