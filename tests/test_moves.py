"""Lumps, moves and ways: hamperlot.moves."""

import unittest

from hamperlot.counting import fillings, how_many
from hamperlot.errors import BadBill, BadCounts, BadLot, TooMany, Unlike
from hamperlot.lots import GREAT, beside, bill_of, in_order
from hamperlot.moves import lumps, moves, needed, way
from plain import FEW, all_bills, all_fillings, plain_lumps, plus, some_lots, turned
from refusing import NO_LOTS, RefusingCase

TWO = ((2, 0), (0, 3), (1, 1))
BOX = {1: (24,), 2: (10, 10), 3: (6, 6, 6)}
LOTS = FEW + some_lots(61, 16, kinds=(2, 3, 4), hold=3) + some_lots(62, 4, kinds=(5,), hold=2)


def above(row):
    return tuple(max(number, 0) for number in row)


def plain_moves(lot, box):
    """The told moves of the bills in a box, and those that are needed."""
    told, must = [], []
    for bill in all_bills(box):
        groups = plain_lumps(lot, bill)
        for group in groups[1:]:
            swap = plus(group[0], groups[0][0], -1)
            told.append((bill, swap))
            if sum(map(len, groups)) == 2:
                must.append(swap)
    return told, must


def inside(bill, box):
    return all(amount <= most for amount, most in zip(bill, box))


def steps_from(start, swaps):
    """How many of the swaps or their opposites lead from a filling to each other one, at least."""
    far = {start: 0}
    front = [start]
    while front:
        at = front.pop(0)
        for swap in swaps:
            for to in (plus(at, swap), plus(at, swap, -1)):
                if min(to) >= 0 and to not in far:
                    far[to] = far[at] + 1
                    front.append(to)
    return far


class LumpsTest(RefusingCase):
    def test_against_a_plain_walk(self):
        for lot in LOTS:
            for bill in all_bills({1: (18,), 2: (7, 6), 3: (4, 4, 4)}[len(lot[0])]):
                with self.subTest(lot, bill=bill):
                    self.assertEqual(lumps(lot, bill), plain_lumps(lot, bill))

    def test_some(self):
        self.assertEqual(lumps(TWO, (6, 6)), [[(0, 0, 6)], [(3, 2, 0)]])
        self.assertEqual(lumps(TWO, (0, 0)), [[(0, 0, 0)]])
        self.assertEqual(lumps(TWO, (1, 0)), [])
        self.assertEqual(lumps(((2,),) * 5, (2,)), [[(0,) * (4 - k) + (1,) + (0,) * k] for k in range(5)])
        self.assertEqual(lumps(((3,), (3,)), (6,)), [[(0, 2), (1, 1), (2, 0)]])

    def test_lumps_that_meet_late(self):
        lot = ((6,), (4,), (5,), (3,))
        for amount in range(40):
            self.assertEqual(lumps(lot, (amount,)), plain_lumps(lot, (amount,)))

    def test_refusals(self):
        for bill, good in [((), -1), ((1,), -1), ((1, 1, 1), -1), ((-1, 0), 0), ((9999, -1), 1), ((GREAT, 0), 0)]:
            self.refused(BadBill, {"good": good}, lumps, TWO, bill)
        self.refused(TooMany, {"most": 4000}, lumps, TWO, (63, 63))
        self.refused(TooMany, {"most": 4000}, lumps, ((1,), (1,)), (4000,))
        self.refused(TooMany, {"most": 400}, lumps, ((1,), (1,)), (400,))
        self.assertEqual(lumps(((1,), (1,)), (399,)), [fillings(((1,), (1,)), (399,))])
        for lot, kind in NO_LOTS:
            self.refused(BadLot, {"kind": kind}, lumps, lot, (-1,))


class MovesTest(RefusingCase):
    def test_against_the_lumps_of_small_bills(self):
        for lot in LOTS:
            box = BOX[len(lot[0])]
            told, must = plain_moves(lot, box)
            with self.subTest(lot):
                self.assertEqual([pair for pair in moves(lot) if inside(pair[0], box)], told)
                small = [swap for swap in needed(lot) if inside(bill_of(lot, above(swap)), box)]
                self.assertEqual(small, must)

    def test_each_told_move_by_its_bill(self):
        for lot in LOTS + some_lots(63, 40):
            told = moves(lot)
            bills = [bill for bill, _ in told]
            self.assertEqual(bills, sorted(bills))
            must = []
            for bill in sorted(set(bills)):
                swaps = [swap for other, swap in told if other == bill]
                self.assertEqual({bill_of(lot, above(swap)) for swap in swaps}, {bill})
                self.assertEqual({bill_of(lot, above(turned(swap))) for swap in swaps}, {bill})
                try:
                    groups = lumps(lot, bill)
                except TooMany:
                    must += [swap for swap in swaps if swap in needed(lot)]
                    continue
                with self.subTest(lot, bill=bill):
                    self.assertEqual(swaps, [plus(group[0], groups[0][0], -1) for group in groups[1:]])
                must += swaps if how_many(lot, bill) == 2 else []
            self.assertEqual(needed(lot), must)

    def test_all_fillings_of_each_small_bill_are_joined(self):
        for lot in LOTS:
            swaps = [swap for _, swap in moves(lot)]
            for bill in all_bills({1: (20,), 2: (7, 7), 3: (5, 4, 5)}[len(lot[0])]):
                told = all_fillings(lot, bill)
                if told:
                    self.assertEqual(sorted(steps_from(told[-1], swaps)), told, (lot, bill))

    def test_some(self):
        self.assertEqual(moves(((1,),)), [])
        self.assertEqual(needed(((1,),)), [])
        self.assertEqual(moves(TWO), [((6, 6), (3, 2, -6))])
        self.assertEqual(needed(TWO), [(3, 2, -6)])
        self.assertEqual(moves(((3,), (3,), (3,))), [((3,), (0, 1, -1)), ((3,), (1, 0, -1))])
        self.assertEqual(needed(((3,), (3,), (3,))), [])
        self.assertEqual(needed(((3,), (3,))), [(1, -1)])
        # A lump of two fillings beside one of a single one: no move is needed.
        self.assertEqual(moves(((1,), (1,), (2,))), [((1,), (1, -1, 0)), ((2,), (0, 2, -1))])
        self.assertEqual(needed(((1,), (1,), (2,))), [(1, -1, 0)])

    def test_bills_of_great_boxes(self):
        lot = ((5, 1), (6, 0), (1, 6), (0, 5))
        far = [(bill, swap) for bill, swap in moves(lot) if (bill[0] + 1) * (bill[1] + 1) > 4000 // 3]
        for bill, swap in far:
            told = all_fillings(lot, bill)
            self.assertIn(above(swap), told)
            self.assertIn(above(turned(swap)), told)
            groups = plain_lumps(lot, bill)
            self.assertEqual([s for b, s in far if b == bill], [plus(g[0], groups[0][0], -1) for g in groups[1:]])

    def test_kinds_in_another_order(self):
        for lot in some_lots(64, 12, kinds=(4,)):
            there = in_order(lot, (3, 1, 0, 2))
            self.assertEqual([bill for bill, _ in moves(there)], [bill for bill, _ in moves(lot)])
            turned_ones = {tuple(swap[kind] for kind in (3, 1, 0, 2)) for swap in needed(lot)}
            both = set(needed(there)) | {turned(swap) for swap in needed(there)}
            self.assertLessEqual(turned_ones, both)
            self.assertEqual(len(needed(there)), len(turned_ones))

    def test_two_lots_beside_one_another(self):
        one, other = ((1,), (2,), (3,)), ((2, 1), (4, 2))
        left = [(bill + (0, 0), swap + (0, 0)) for bill, swap in moves(one)]
        right = [((0,) + bill, (0, 0, 0) + swap) for bill, swap in moves(other)]
        self.assertEqual(moves(beside(one, other)), sorted(left + right))

    def test_bad_lots(self):
        for lot, kind in NO_LOTS:
            self.refused(BadLot, {"kind": kind}, moves, lot)
            self.refused(BadLot, {"kind": kind}, needed, lot)


class WayTest(RefusingCase):
    def test_ways_between_all_fillings(self):
        for lot in LOTS:
            told = moves(lot)
            steps = told + [(bill, turned(swap)) for bill, swap in told]
            for bill in [tuple(amount * share // 3 for amount in BOX[len(lot[0])]) for share in (1, 2, 3)]:
                rows = all_fillings(lot, bill)
                for one in rows[:2] + rows[-1:]:
                    far = steps_from(one, [swap for _, swap in told])
                    for other in rows[::3] + rows[-1:]:
                        self.look(lot, one, other, steps, far[other])

    def look(self, lot, one, other, steps, far):
        told = way(lot, one, other)
        self.assertEqual(len(told), far, (lot, one, other))
        at = one
        for step in told:
            self.assertIn(step, steps)
            at = plus(at, step[1])
            self.assertGreaterEqual(min(at), 0)
        self.assertEqual(at, other)

    def test_some(self):
        self.assertEqual(way(TWO, (3, 2, 0), (0, 0, 6)), [((6, 6), (-3, -2, 6))])
        self.assertEqual(way(TWO, (0, 0, 6), (3, 2, 0)), [((6, 6), (3, 2, -6))])
        self.assertEqual(way(TWO, (1, 1, 1), (1, 1, 1)), [])
        self.assertEqual(way(TWO, (0, 0, 0), (0, 0, 0)), [])
        self.assertEqual(way(((1,),), (3,), (3,)), [])

    def test_bad_counts_of_the_one_then_of_the_other(self):
        good = (1, 1, 1)
        for counts, kind in [
            ((), -1), ((1, 1), -1), ((1, 1, 1, 1), -1), ((-1, 0, 0), 0), ((0, 0, -1), 2), ((0, GREAT, 0), 1),
        ]:
            self.refused(BadCounts, {"kind": kind}, way, TWO, counts, good)
            self.refused(BadCounts, {"kind": kind}, way, TWO, good, counts)
            self.refused(BadCounts, {"kind": kind}, way, TWO, counts, (0, -1, 0))
            self.refused(BadCounts, {"kind": kind}, way, TWO, (GREAT - 1, 0, 0), counts)

    def test_unlike(self):
        for one, other, good in [
            ((1, 0, 0), (0, 0, 0), 0), ((0, 1, 0), (0, 0, 0), 1), ((1, 1, 0), (0, 0, 1), 0), ((1, 1, 0), (0, 0, 2), 1),
            ((GREAT - 1, 0, 0), (0, 0, 0), 0), ((0, 500, 0), (0, 0, 0), 1),
        ]:
            self.refused(Unlike, {"good": good}, way, TWO, one, other)
            self.refused(Unlike, {"good": good}, way, TWO, other, one)

    def test_too_many(self):
        pair = ((1,), (1,))
        self.refused(TooMany, {"most": 4000}, way, pair, (4000, 0), (0, 4000))
        self.refused(TooMany, {"most": 4000}, way, pair, (4000, 0), (4000, 0))
        self.refused(TooMany, {"most": 400}, way, pair, (400, 0), (0, 400))
        self.refused(TooMany, {"most": 400}, way, pair, (400, 0), (400, 0))
        self.assertEqual(len(way(pair, (399, 0), (0, 399))), 399)

    def test_too_many_of_great_and_more(self):
        pair = ((1,), (1,))
        self.refused(TooMany, {"most": 4000}, way, pair, (GREAT - 1, 1), (1, GREAT - 1))
        self.refused(TooMany, {"most": 4000}, way, ((6,),), (GREAT - 1,), (GREAT - 1,))
        self.refused(TooMany, {"most": 4000}, way, ((6, 0),), (GREAT - 1,), (GREAT - 1,))

    def test_bad_lots_go_first(self):
        for lot, kind in NO_LOTS:
            self.refused(BadLot, {"kind": kind}, way, lot, (-1,), ())


class HandedInTest(unittest.TestCase):
    def test_by_name(self):
        self.assertEqual(lumps(bill=(2, 0), lot=TWO), [[(1, 0, 0)]])
        self.assertEqual(moves(lot=TWO), [((6, 6), (3, 2, -6))])
        self.assertEqual(needed(lot=TWO), [(3, 2, -6)])
        self.assertEqual(way(other=(3, 2, 0), one=(0, 0, 6), lot=TWO), [((6, 6), (3, 2, -6))])

    def test_what_is_told_is_the_askers_own(self):
        told = lumps(TWO, (6, 6))
        told[0].clear()
        told.clear()
        self.assertEqual(lumps(TWO, (6, 6)), [[(0, 0, 6)], [(3, 2, 0)]])
        for function in (moves, needed):
            told = function(TWO)
            kept = list(told)
            told.clear()
            self.assertEqual(function(TWO), kept)
        told = way(TWO, (1, 1, 1), (1, 1, 1))
        told.append(None)
        self.assertEqual(way(TWO, (1, 1, 1), (1, 1, 1)), [])


if __name__ == "__main__":
    unittest.main()
