"""Swaps, ground swaps and rings: hamperlot.swaps."""

import itertools
import math
import random
import unittest
from fractions import Fraction

from hamperlot.errors import BadLot, BadSwap
from hamperlot.lots import GREAT, beside, in_order
from hamperlot.swaps import conforms, ground, is_swap, look_change, parts, rings, spanning
from plain import (
    FEW, goods_in, is_plain_ground, is_plain_swap, is_told_way, plain_conforms, plus, small_swaps, some_lots, turned,
)
from refusing import NO_LOTS, RefusingCase

TWO = ((2, 0), (0, 3), (1, 1))
LOTS = FEW + some_lots(21, 40) + some_lots(22, 20, kinds=(5,))
# Of these there are very many ground swaps.
HARD = [((5, 0), (6, 5), (0, 6), (5, 6), (6, 5)), ((0, 6, 5), (5, 0, 0), (5, 0, 6), (6, 5, 0), (5, 6, 5))]


def rank(rows):
    """How many of the rows don't hang on others."""
    rows = [[Fraction(number) for number in row] for row in rows]
    many = 0
    for place in range(len(rows[0]) if rows else 0):
        lead = next((row for row in rows[many:] if row[place]), None)
        if lead is None:
            continue
        rows.remove(lead)
        rows.insert(many, lead)
        for row in rows[many + 1:]:
            share = row[place] / lead[place]
            row[:] = [mine - share * theirs for mine, theirs in zip(row, lead)]
        many += 1
    return many


def determinant(rows):
    if not rows:
        return 1
    told = 0
    for place, number in enumerate(rows[0]):
        told += (-1) ** place * number * determinant([row[:place] + row[place + 1:] for row in rows[1:]])
    return told


class LookTest(RefusingCase):
    def test_swaps(self):
        for change in [(3, 2, -6), (-3, -2, 6), (6, 4, -12), (3 * GREAT, 2 * GREAT, -6 * GREAT)]:
            self.assertIs(is_swap(TWO, change), True)
            self.assertIsNone(look_change(TWO, change))

    def test_all_noughts(self):
        self.assertIs(is_swap(TWO, (0, 0, 0)), False)
        self.assertIsNone(look_change(TWO, (0, 0, 0)))
        self.assertIs(is_swap(((1,),), (0,)), False)
        self.assertIsNone(look_change(((1,),), (0,)))

    def test_another_count(self):
        for change in [(), (0,), (3, 2), (3, 2, -6, 0), (0, 0, 0, 0)]:
            self.assertIs(is_swap(TWO, change), False)
            self.refused(BadSwap, {"good": -1}, look_change, TWO, change)
            self.refused(BadSwap, {"good": -1}, parts, TWO, change)

    def test_the_first_good_that_changes(self):
        for change, good in [((1, 0, 0), 0), ((0, 1, 0), 1), ((1, 1, 1), 0), ((-1, 0, 2), 1), ((3, 2, -5), 0)]:
            self.assertIs(is_swap(TWO, change), False)
            self.refused(BadSwap, {"good": good}, look_change, TWO, change)
            self.refused(BadSwap, {"good": good}, parts, TWO, change)
        self.refused(BadSwap, {"good": 2}, look_change, ((1, 1, 1), (1, 1, 2)), (1, -1))

    def test_against_goods(self):
        for lot in FEW:
            for change in itertools.product(range(-3, 4), repeat=len(lot)):
                self.assertIs(is_swap(lot, change), is_plain_swap(lot, change))

    def test_bad_lots_go_first(self):
        for lot, kind in NO_LOTS:
            with self.subTest(lot):
                self.refused(BadLot, {"kind": kind}, is_swap, lot, (1, 1, 1, 1, 1, 1))
                self.refused(BadLot, {"kind": kind}, look_change, lot, (1, 1, 1, 1, 1, 1))
                self.refused(BadLot, {"kind": kind}, parts, lot, (1, 1, 1, 1, 1, 1))
                for function in (ground, rings, spanning):
                    self.refused(BadLot, {"kind": kind}, function, lot)


class ConformsTest(unittest.TestCase):
    def test_small_rows(self):
        for one in itertools.product(range(-2, 3), repeat=2):
            for other in itertools.product(range(-2, 3), repeat=2):
                self.assertIs(conforms(one, other), plain_conforms(one, other), (one, other))

    def test_some(self):
        self.assertIs(conforms((1, 0, -2), (1, 5, -2)), True)
        self.assertIs(conforms((1, 0, 2), (1, 5, -2)), False)
        self.assertIs(conforms((1, 0, -3), (1, 5, -2)), False)
        self.assertIs(conforms((1,), (0,)), False)
        self.assertIs(conforms((0, 0), (0, 0)), True)
        self.assertIs(conforms((GREAT, -1), (GREAT + 1, -GREAT)), True)


class GroundTest(unittest.TestCase):
    def test_told_ones(self):
        self.assertEqual(ground(((1,),)), [])
        self.assertEqual(ground(((2,), (3,))), [(3, -2)])
        self.assertEqual(ground(((3,), (3,))), [(1, -1)])
        self.assertEqual(ground(TWO), [(3, 2, -6)])
        self.assertEqual(
            ground(((1,), (2,), (3,))), [(0, 3, -2), (1, -2, 1), (1, 1, -1), (2, -1, 0), (3, 0, -1)],
        )

    def test_against_all_small_rows(self):
        for lot in LOTS:
            most = {1: 9, 2: 9, 3: 9, 4: 7, 5: 4}[len(lot)]
            small = small_swaps(lot, most)
            told = ground(lot)
            seen = [swap for swap in told if max(map(abs, swap)) <= most]
            want = [
                row for row in small
                if is_told_way(row) and not any(plain_conforms(other, row) and other != row for other in small)
            ]
            with self.subTest(lot):
                self.assertEqual(seen, want)

    def test_to_each_no_other_swap_conforms(self):
        for lot in FEW + some_lots(23, 60, hold=4):
            for swap in ground(lot):
                if math.prod(abs(number) + 1 for number in swap) < 20000:
                    self.assertTrue(is_plain_ground(lot, swap), (lot, swap))

    def test_rising_each_once_the_told_way(self):
        for lot in LOTS + HARD:
            told = ground(lot)
            self.assertEqual(told, sorted(set(told)))
            self.assertTrue(all(is_told_way(swap) and is_plain_swap(lot, swap) for swap in told))
            self.assertTrue(all(type(swap) is tuple and len(swap) == len(lot) for swap in told))

    def test_none_conforms_to_another(self):
        for lot in LOTS:
            told = ground(lot)
            both = told + [turned(swap) for swap in told]
            for swap in told:
                self.assertEqual([other for other in both if plain_conforms(other, swap)], [swap])

    def test_hard_ones(self):
        self.assertEqual([len(ground(lot)) for lot in HARD], [1149, 343])

    def test_kinds_in_another_order(self):
        for lot in some_lots(24, 12, kinds=(4,)):
            order = (2, 0, 3, 1)
            there = [tuple(swap[kind] for kind in order) for swap in ground(lot)]
            told = sorted(swap if is_told_way(swap) else turned(swap) for swap in there)
            self.assertEqual(ground(in_order(lot, order)), told)

    def test_two_lots_beside_one_another(self):
        for one, other in [(((1,), (2,), (3,)), ((2, 1), (4, 2))), (((2,), (2,)), ((3,), (5,), (1,)))]:
            left = [swap + (0,) * len(other) for swap in ground(one)]
            right = [(0,) * len(one) + swap for swap in ground(other)]
            self.assertEqual(ground(beside(one, other)), sorted(left + right))
            left = [swap + (0,) * len(other) for swap in rings(one)]
            right = [(0,) * len(one) + swap for swap in rings(other)]
            self.assertEqual(rings(beside(one, other)), sorted(left + right))


class RingsTest(unittest.TestCase):
    def test_told_ones(self):
        self.assertEqual(rings(((1,),)), [])
        self.assertEqual(rings(((1,), (2,), (3,))), [(0, 3, -2), (2, -1, 0), (3, 0, -1)])
        self.assertEqual(rings(TWO), [(3, 2, -6)])

    def test_against_the_kinds_of_ground_swaps(self):
        for lot in LOTS + HARD:
            told = ground(lot)
            sets = {frozenset(kind for kind, number in enumerate(swap) if number) for swap in told}
            want = [
                swap for swap in told
                if not any(some < {kind for kind, number in enumerate(swap) if number} for some in sets)
            ]
            self.assertEqual(rings(lot), want)

    def test_the_kinds_of_a_ring_have_that_swap_alone(self):
        for lot in LOTS:
            for swap in rings(lot):
                kinds = [kind for kind, number in enumerate(swap) if number]
                self.assertEqual(rank([lot[kind] for kind in kinds]), len(kinds) - 1)
                self.assertEqual(math.gcd(*swap), 1)

    def test_none_is_left_out(self):
        for lot in LOTS:
            sets = [tuple(kind for kind, number in enumerate(swap) if number) for swap in rings(lot)]
            want = []
            for many in range(1, len(lot) + 1):
                for kinds in itertools.combinations(range(len(lot)), many):
                    holds = [lot[kind] for kind in kinds]
                    fewer = [holds[:at] + holds[at + 1:] for at in range(many)]
                    if rank(holds) == many - 1 and all(rank(some) == many - 1 for some in fewer):
                        want.append(kinds)
            self.assertEqual(sorted(sets), sorted(want))


class PartsTest(unittest.TestCase):
    def look(self, lot, change, told_ones):
        told = parts(lot, change)
        both = told_ones + [turned(swap) for swap in told_ones]
        total = (0,) * len(lot)
        for times, swap in told:
            self.assertGreater(times, 0)
            self.assertIn(swap, both)
            self.assertTrue(plain_conforms(swap, change))
            total = plus(total, swap, times)
        self.assertEqual(total, change)
        self.assertEqual(len({swap for _, swap in told}), len(told))

    def test_sums_small_and_great(self):
        draw = random.Random(31)
        for lot in LOTS + HARD:
            told = ground(lot)
            for most in (1, 3, 50, 10 ** 12, GREAT):
                change = (0,) * len(lot)
                for swap in draw.sample(told, min(len(told), 3)):
                    change = plus(change, swap, draw.randint(-most, most))
                with self.subTest(lot, change=change):
                    self.look(lot, change, told)

    def test_all_small_swaps(self):
        for lot in FEW:
            told = ground(lot)
            for change in small_swaps(lot, 4):
                self.look(lot, change, told)

    def test_one_ground_swap(self):
        self.assertEqual(parts(TWO, (3, 2, -6)), [(1, (3, 2, -6))])
        self.assertEqual(parts(TWO, (-3, -2, 6)), [(1, (-3, -2, 6))])
        self.assertEqual(parts(TWO, (3 * GREAT, 2 * GREAT, -6 * GREAT)), [(GREAT, (3, 2, -6))])

    def test_all_noughts(self):
        for lot in LOTS:
            self.assertEqual(parts(lot, (0,) * len(lot)), [])


class SpanningTest(unittest.TestCase):
    def test_as_few_as_can_be_and_all_spanned(self):
        for lot in LOTS + HARD:
            told = spanning(lot)
            with self.subTest(lot, told=told):
                self.assertEqual(len(told), len(lot) - rank(lot))
                self.assertEqual(rank(told), len(told))
                self.assertTrue(all(is_plain_swap(lot, swap) for swap in told))
                # Each swap is a whole sum just where no number above 1 goes into all these.
                minors = [
                    determinant([tuple(swap[kind] for kind in kinds) for swap in told])
                    for kinds in itertools.combinations(range(len(lot)), len(told))
                ]
                self.assertEqual(math.gcd(*minors), 1)

    def test_whole_sums(self):
        for lot in FEW:
            told = spanning(lot)
            sums = {
                tuple(sum(times * swap[kind] for times, swap in zip(row, told)) for kind in range(len(lot)))
                for row in itertools.product(range(-8, 9), repeat=len(told))
            } if len(told) < 4 else set()
            for swap in ground(lot) if sums else []:
                self.assertIn(swap, sums)

    def test_some(self):
        self.assertEqual(spanning(((4,),)), [])
        self.assertIn(spanning(((2,), (3,))), [[(3, -2)], [(-3, 2)]])


class HandedInTest(unittest.TestCase):
    def test_by_name(self):
        self.assertTrue(is_swap(change=(3, 2, -6), lot=TWO))
        self.assertIsNone(look_change(change=(3, 2, -6), lot=TWO))
        self.assertTrue(conforms(other=(1,), one=(1,)))
        self.assertEqual(ground(lot=TWO), rings(lot=TWO))
        self.assertEqual(parts(change=(3, 2, -6), lot=TWO), [(1, (3, 2, -6))])
        self.assertEqual(len(spanning(lot=TWO)), 1)

    def test_what_is_told_is_the_askers_own(self):
        for function in (ground, rings, spanning):
            told = function(TWO)
            kept = list(told)
            told.clear()
            self.assertEqual(function(TWO), kept)
        told = parts(TWO, (3, 2, -6))
        told.append(None)
        self.assertEqual(parts(TWO, (3, 2, -6)), [(1, (3, 2, -6))])

    def test_goods_do_not_change(self):
        for lot in LOTS:
            for swap in ground(lot):
                self.assertEqual(goods_in(lot, swap), (0,) * len(lot[0]))


if __name__ == "__main__":
    unittest.main()
