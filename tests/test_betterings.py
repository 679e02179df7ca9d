"""Loads, the best of them, and betterings: hamperlot.betterings."""

import random
import unittest

from hamperlot.betterings import best_filling, best_load, betterings, fits, worth_of
from hamperlot.errors import BadBill, BadCounts, BadLot, BadWish
from hamperlot.lots import GREAT, beside, bill_of
from plain import FEW, all_bills, all_fillings, all_loads, load_rank, plain_best, plus, some_lots
from refusing import NO_LOTS, RefusingCase

TWO = ((2, 0), (0, 3), (1, 1))
SMALL = {1: (16,), 2: (6, 6), 3: (4, 4, 4)}
WIDE = {1: (30,), 2: (10, 11), 3: (5, 5, 6)}
# With very many betterings.
HARD = ((2, 1, 4), (5, 0, 1), (0, 5, 1), (6, 2, 0), (1, 4, 6))

NO_WISHES = [(1,), (1, 1), (1, 1, 1, 1), (100, 0, 0), (0, 0, -100), (0, 99, 100), (-GREAT, 0, 0), (0,)]


def wishes_for(lot, draw):
    """Some wishes: with like numbers, noughts, and whatever comes."""
    many = len(lot)
    return [
        (), (0,) * many, (7,) * many, (-99,) * many, tuple(draw.choice((0, 1)) for _ in lot),
        tuple(draw.randint(-99, 99) for _ in lot), tuple(99 - 7 * kind for kind in range(many)),
    ]


def one_less(load):
    """What is left of a load behind taking out any single thing."""
    counts, loose = load
    for kind, count in enumerate(counts):
        if count:
            yield counts[:kind] + (count - 1,) + counts[kind + 1:], loose
    for good, amount in enumerate(loose):
        if amount:
            yield counts, loose[:good] + (amount - 1,) + loose[good + 1:]


def bill_of_load(lot, load):
    return bill_of(lot, load[0], loose=load[1])


def plain_betterings(lot, box, wish):
    """All betterings of bills in a box, by all loads of all these bills."""
    best = {bill: plain_best(lot, bill, wish) for bill in all_bills(box)}
    told = []
    for bill, load in best.items():
        for needy in all_loads(lot, bill):
            if needy != load and all(best[bill_of_load(lot, left)] == left for left in one_less(needy)):
                told.append((needy, load))
    return sorted(told)


class BestTest(RefusingCase):
    def test_against_all_loads(self):
        draw = random.Random(41)
        for lot in FEW + some_lots(42, 12, kinds=(2, 3, 4), hold=4):
            for wish in wishes_for(lot, draw):
                for bill in draw.sample(all_bills(SMALL[len(lot[0])]), 9):
                    want = plain_best(lot, bill, wish)
                    with self.subTest(lot, bill=bill, wish=wish):
                        self.assertEqual(best_load(lot, bill, wish=wish), want)
                        filled = all_fillings(lot, bill)
                        told = best_filling(lot, bill, wish=wish)
                        self.assertEqual(told, want[0] if filled else None)
                        self.assertEqual(bool(filled), not any(want[1]))

    def test_without_a_wish(self):
        for lot in FEW:
            bill = SMALL[len(lot[0])]
            self.assertEqual(best_load(lot, bill), plain_best(lot, bill, ()))
            self.assertEqual(best_load(lot, bill), best_load(lot, bill, wish=(1,) * len(lot)))
            self.assertEqual(best_filling(lot, bill), best_filling(lot, bill, wish=()))

    def test_some(self):
        self.assertEqual(best_load(TWO, (0, 0)), ((0, 0, 0), (0, 0)))
        self.assertEqual(best_load(TWO, (1, 0)), ((0, 0, 0), (1, 0)))
        self.assertEqual(best_load(TWO, (6, 6)), ((3, 2, 0), (0, 0)))
        self.assertEqual(best_load(TWO, (6, 6), wish=(2, 2, 1)), ((0, 0, 6), (0, 0)))
        self.assertEqual(best_filling(TWO, (0, 0)), (0, 0, 0))
        self.assertIsNone(best_filling(TWO, (1, 0)))
        # Of kinds alike the lesser counts, of loose goods in all alike the lesser worth, then the lesser loose tuple.
        self.assertEqual(best_load(((3,), (3,)), (7,)), ((0, 2), (1,)))
        self.assertEqual(best_load(((3,), (3,)), (7,), wish=(0, 1)), ((2, 0), (1,)))
        self.assertEqual(best_load(((2, 1), (1, 2)), (2, 2)), ((1, 0), (0, 1)))
        self.assertEqual(best_load(((2, 1), (1, 2)), (2, 2), wish=(1, 0)), ((0, 1), (1, 0)))

    def test_great_bills(self):
        draw = random.Random(43)
        for lot in FEW + some_lots(44, 24, kinds=(4, 5)) + [HARD]:
            wish = draw.choice(wishes_for(lot, draw))
            pairs = betterings(lot, wish=wish)
            for _ in range(4):
                amounts = [GREAT - 1, draw.randrange(GREAT), 10 ** 29, draw.randrange(40), 0]
                bill = tuple(draw.choice(amounts) for _ in lot[0])
                load = best_load(lot, bill, wish=wish)
                with self.subTest(lot, bill=bill, wish=wish):
                    self.assertEqual(bill_of_load(lot, load), bill)
                    self.assertGreaterEqual(min(load[0] + load[1]), 0)
                    self.assertFalse([needy for needy, _ in pairs if fits(load, needy)])
                    told = best_filling(lot, bill, wish=wish)
                    self.assertEqual(told, None if any(load[1]) else load[0])
                if lot == HARD:
                    break

    def test_great_bills_that_are_known(self):
        self.assertEqual(best_load(((6,), (5,)), (GREAT - 1,)), ((166666666666666666666666666664, 3), (0,)))
        self.assertEqual(best_filling(((1,), (6,)), (GREAT - 4,)), (0, (GREAT - 4) // 6))
        self.assertEqual(best_filling(((1, 0), (0, 1)), (GREAT - 1, 10 ** 29)), (GREAT - 1, 10 ** 29))
        self.assertEqual(best_load(((6, 6),), (GREAT - 1, 3)), ((0,), (GREAT - 1, 3)))

    def test_refusals(self):
        for function in (best_load, best_filling):
            for bill, good in [
                ((), -1), ((1,), -1), ((1, 1, 1), -1), ((-1, 0), 0), ((0, -1), 1), ((GREAT, 0), 0), ((0, GREAT), 1),
            ]:
                self.refused(BadBill, {"good": good}, function, TWO, bill)
                self.refused(BadBill, {"good": good}, function, TWO, bill, wish=(1,))
            for wish in NO_WISHES:
                self.refused(BadWish, {}, function, TWO, (1, 1), wish=wish)
            for lot, kind in NO_LOTS:
                self.refused(BadLot, {"kind": kind}, function, lot, (-1,), wish=(100,))


class BetteringsTest(RefusingCase):
    def test_some(self):
        self.assertEqual(betterings(((2,),)), [(((0,), (2,)), ((1,), (0,)))])
        self.assertEqual(
            betterings(((3,), (3,))), [(((0, 0), (3,)), ((0, 1), (0,))), (((1, 0), (0,)), ((0, 1), (0,)))],
        )
        self.assertEqual(betterings(((3,), (3,)), loose=False), [(((1, 0), (0,)), ((0, 1), (0,)))])
        self.assertEqual(betterings(((3,), (3,)), wish=(1, 2), loose=False), [(((0, 1), (0,)), ((1, 0), (0,)))])
        self.assertEqual(betterings(((2,), (3,)), loose=True), [
            (((0, 0), (2,)), ((1, 0), (0,))), (((0, 1), (1,)), ((2, 0), (0,))), (((1, 0), (1,)), ((0, 1), (0,))),
            (((3, 0), (0,)), ((0, 2), (0,))),
        ])

    def test_against_all_loads_of_small_boxes(self):
        draw = random.Random(45)
        for lot in FEW + some_lots(46, 14, kinds=(2, 3, 4), hold=3):
            box = WIDE[len(lot[0])]
            for wish in draw.sample(wishes_for(lot, draw), 2):
                want = plain_betterings(lot, box, wish)
                told = betterings(lot, wish=wish)
                inside = [
                    pair for pair in told
                    if all(amount <= most for amount, most in zip(bill_of_load(lot, pair[0]), box))
                ]
                with self.subTest(lot, wish=wish):
                    self.assertEqual(inside, want)

    def test_each_pair(self):
        draw = random.Random(47)
        for lot in FEW + some_lots(48, 16, kinds=(4, 5)):
            wish = draw.choice(wishes_for(lot, draw))
            told = betterings(lot, wish=wish)
            with self.subTest(lot, wish=wish):
                self.assertEqual(told, sorted(set(told)))
                for needy, best in told:
                    self.assertEqual(bill_of_load(lot, needy), bill_of_load(lot, best))
                    self.assertLess(load_rank(best, wish), load_rank(needy, wish))
                    self.assertGreaterEqual(min(needy[0] + needy[1] + best[0] + best[1]), 0)
                    self.assertEqual(best_load(lot, bill_of_load(lot, best), wish=wish), best)
                for needy, _ in draw.sample(told, min(len(told), 5)):
                    for left in one_less(needy):
                        self.assertEqual(best_load(lot, bill_of_load(lot, left), wish=wish), left)

    def test_nothing_loose(self):
        draw = random.Random(49)
        for lot in FEW + some_lots(50, 12):
            wish = draw.choice(wishes_for(lot, draw))
            told = betterings(lot, wish=wish)
            want = [pair for pair in told if not any(pair[0][1])]
            self.assertEqual(betterings(lot, wish=wish, loose=False), want)
            self.assertEqual(betterings(lot, wish=wish, loose=True), told)

    def test_they_lead_to_the_best_load_whatever_way(self):
        draw = random.Random(51)
        for lot in FEW:
            wish = draw.choice(wishes_for(lot, draw))
            told = betterings(lot, wish=wish)
            bill = SMALL[len(lot[0])]
            for load in draw.sample(all_loads(lot, bill), min(len(all_loads(lot, bill)), 12)):
                fitting = [pair for pair in told if fits(load, pair[0])]
                while fitting:
                    needy, best = draw.choice(fitting)
                    better = tuple(plus(plus(row, out, -1), put) for row, out, put in zip(load, needy, best))
                    self.assertLess(load_rank(better, wish), load_rank(load, wish))
                    load = better
                    fitting = [pair for pair in told if fits(load, pair[0])]
                self.assertEqual(load, plain_best(lot, bill, wish))

    def test_very_many(self):
        self.assertEqual(len(betterings(HARD)), 684)

    def test_two_lots_beside_one_another(self):
        one, other = ((2,), (3,)), ((2, 1), (1, 1), (0, 2))
        left = [tuple((counts + (0,) * 3, loose + (0, 0)) for counts, loose in pair) for pair in betterings(one)]
        right = [tuple(((0,) * 2 + counts, (0,) + loose) for counts, loose in pair) for pair in betterings(other)]
        self.assertEqual(betterings(beside(one, other)), sorted(left + right))

    def test_refusals(self):
        for wish in NO_WISHES:
            self.refused(BadWish, {}, betterings, TWO, wish=wish)
            self.refused(BadWish, {}, betterings, TWO, wish=wish, loose=False)
        for lot, kind in NO_LOTS:
            self.refused(BadLot, {"kind": kind}, betterings, lot, wish=(100,))


class WorthTest(RefusingCase):
    def test_worth(self):
        self.assertEqual(worth_of(TWO, (4, 2, 5)), 11)
        self.assertEqual(worth_of(TWO, (4, 2, 5), wish=()), 11)
        self.assertEqual(worth_of(TWO, (4, 2, 5), wish=(1, -99, 99)), 4 - 198 + 495)
        self.assertEqual(worth_of(TWO, (4, 2, 5), wish=(0, 0, 0)), 0)
        self.assertEqual(worth_of(TWO, (0, 0, 0)), 0)
        self.assertEqual(worth_of(TWO, (GREAT - 1,) * 3, wish=(99, 99, -98)), 100 * (GREAT - 1))

    def test_refusals(self):
        for counts, kind in [
            ((), -1), ((1, 1), -1), ((1, 1, 1, 1), -1), ((-1, 0, 0), 0), ((0, 0, -1), 2), ((0, GREAT, -1), 1),
        ]:
            self.refused(BadCounts, {"kind": kind}, worth_of, TWO, counts)
            self.refused(BadCounts, {"kind": kind}, worth_of, TWO, counts, wish=(1,))
        for wish in NO_WISHES:
            self.refused(BadWish, {}, worth_of, TWO, (1, 1, 1), wish=wish)
        for lot, kind in NO_LOTS:
            self.refused(BadLot, {"kind": kind}, worth_of, lot, (-1,), wish=(100,))

    def test_the_edges_of_wishes(self):
        self.assertEqual(worth_of(TWO, (1, 1, 1), wish=(99, -99, 99)), 99)


class FitsTest(unittest.TestCase):
    def test_fits(self):
        load = ((2, 0, 1), (3, 0))
        for needy in [((0, 0, 0), (0, 0)), ((2, 0, 1), (3, 0)), ((1, 0, 1), (0, 0)), ((0, 0, 0), (1, 0))]:
            self.assertIs(fits(load, needy), True)
        for needy in [((3, 0, 0), (0, 0)), ((0, 1, 0), (0, 0)), ((0, 0, 0), (0, 1)), ((2, 0, 1), (4, 0))]:
            self.assertIs(fits(load, needy), False)
        self.assertIs(fits(((0,), (0,)), ((0,), (0,))), True)


class HandedInTest(unittest.TestCase):
    def test_by_name(self):
        self.assertEqual(betterings(loose=False, wish=(1, 2), lot=((3,), (3,))), [(((0, 1), (0,)), ((1, 0), (0,)))])
        self.assertEqual(best_load(wish=(1, 1, 1), bill=(2, 0), lot=TWO), ((1, 0, 0), (0, 0)))
        self.assertEqual(best_filling(wish=(1, 1, 1), bill=(2, 0), lot=TWO), (1, 0, 0))
        self.assertEqual(worth_of(wish=(1, 1, 2), counts=(0, 0, 1), lot=TWO), 2)
        self.assertTrue(fits(needy=((0,), (1,)), load=((0,), (1,))))

    def test_behind_a_star_by_name_alone(self):
        for call in [
            lambda: betterings(TWO, ()), lambda: best_load(TWO, (1, 1), ()), lambda: best_filling(TWO, (1, 1), ()),
            lambda: worth_of(TWO, (1, 1, 1), ()),
        ]:
            self.assertRaises(TypeError, call)

    def test_what_is_told_is_the_askers_own(self):
        told = betterings(TWO)
        kept = list(told)
        told.clear()
        self.assertEqual(betterings(TWO), kept)

    def test_kinds_of_values(self):
        for pair in betterings(TWO):
            for load in pair:
                self.assertEqual([type(part) for part in (pair, load, *load)], [tuple] * 4)
        load = best_load(TWO, (7, 9))
        self.assertEqual([type(part) for part in (load, *load)], [tuple] * 3)


if __name__ == "__main__":
    unittest.main()
