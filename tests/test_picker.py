"""A picker: hamperlot.picker."""

import random
import unittest

from hamperlot.betterings import best_load, betterings, fits
from hamperlot.errors import BadBill, BadLot, BadSwap, BadWish, NoKind, NothingLeft, Short
from hamperlot.lots import GREAT
from hamperlot.picker import Picker
from hamperlot.swaps import ground
from plain import FEW, goods_in, plain_best, plus, some_lots, turned
from refusing import NO_LOTS, RefusingCase

TWO = ((2, 0), (0, 3), (1, 1))
NO_BILLS = [
    ((), -1), ((1,), -1), ((1, 1, 1), -1), ((-1, 0), 0), ((0, -1), 1), ((-1, -1), 0), ((GREAT, 0), 0), ((0, GREAT), 1),
]


def told_by(picker):
    """All that a picker tells, but for its betterings."""
    return (
        picker.lot(), picker.bill(), picker.wish(), picker.counts(), picker.loose(), picker.left(), picker.hampers(),
        len(picker), str(picker), repr(picker), picker.is_best(),
    )


class PickerCase(RefusingCase):
    def unchanged(self, picker, refusal, fields, function, *places, **names):
        """The call is refused, and changes nothing."""
        before = told_by(picker)
        self.refused(refusal, fields, function, *places, **names)
        self.assertEqual(told_by(picker), before)

    def stands(self, picker, counts, loose, left):
        self.assertEqual((picker.counts(), picker.loose(), picker.left()), (counts, loose, left))


class BeginningTest(PickerCase):
    def test_everything_is_loose(self):
        picker = Picker(TWO, (7, 10))
        self.assertEqual(picker.lot(), TWO)
        self.assertEqual(picker.bill(), (7, 10))
        self.assertEqual(picker.wish(), ())
        self.assertEqual(picker.counts(), (0, 0, 0))
        self.assertEqual(picker.loose(), (7, 10))
        self.assertEqual(picker.left(), (0, 0))
        self.assertEqual(picker.hampers(), 0)
        self.assertIs(picker.is_best(), False)
        self.assertEqual(len(picker), 0)
        self.assertEqual(str(picker), "0,0,0")
        self.assertEqual(repr(picker), "Picker(3 kinds, 17 loose)")

    def test_wishes_are_told_as_handed_in(self):
        for wish in [(), (1, 1, 1), (99, -99, 0)]:
            self.assertEqual(Picker(TWO, (7, 10), wish=wish).wish(), wish)

    def test_an_empty_bill(self):
        picker = Picker(TWO, (0, 0))
        self.assertIs(picker.is_best(), True)
        self.assertIsNone(picker.better())
        self.stands(picker, (0, 0, 0), (0, 0), (0, 0))
        self.assertEqual(repr(picker), "Picker(3 kinds, 0 loose)")

    def test_refusals_in_their_order(self):
        for lot, kind in NO_LOTS:
            self.refused(BadLot, {"kind": kind}, Picker, lot, (), wish=(100,))
            self.refused(BadLot, {"kind": kind}, Picker, lot, (1,))
        for bill, good in NO_BILLS:
            self.refused(BadBill, {"good": good}, Picker, TWO, bill)
            self.refused(BadBill, {"good": good}, Picker, TWO, bill, wish=(1,))
        for wish in [(1,), (1, 1), (1, 1, 1, 1), (100, 0, 0), (0, 0, -100)]:
            self.refused(BadWish, {}, Picker, TWO, (1, 1), wish=wish)


class PackTest(PickerCase):
    def test_packing_and_unpacking(self):
        picker = Picker(TWO, (7, 10))
        self.assertIsNone(picker.pack(0))
        self.stands(picker, (1, 0, 0), (5, 10), (1, 0))
        self.assertIsNone(picker.pack(1, times=3))
        self.stands(picker, (1, 3, 0), (5, 1), (2, 0))
        picker.pack(2)
        self.stands(picker, (1, 3, 1), (4, 0), (3, 0))
        self.assertEqual((picker.hampers(), len(picker), str(picker)), (5, 3, "1,3,1"))
        self.assertEqual(repr(picker), "Picker(3 kinds, 4 loose)")
        self.assertIsNone(picker.unpack(1, times=2))
        self.stands(picker, (1, 1, 1), (4, 6), (4, 0))
        picker.unpack(0)
        self.stands(picker, (0, 1, 1), (6, 6), (5, 0))
        self.assertEqual((picker.hampers(), len(picker), str(picker)), (2, 2, "0,1,1"))
        self.assertEqual(picker.bill(), (7, 10))

    def test_no_times_is_a_deed(self):
        picker = Picker(TWO, (7, 10))
        picker.pack(0, times=0)
        picker.unpack(2, times=0)
        self.stands(picker, (0, 0, 0), (7, 10), (2, 0))

    def test_just_enough(self):
        picker = Picker(TWO, (6, 9))
        picker.pack(0, times=3)
        picker.pack(1, times=3)
        self.stands(picker, (3, 3, 0), (0, 0), (2, 0))
        picker.unpack(0, times=3)
        picker.unpack(1, times=3)
        self.stands(picker, (0, 0, 0), (6, 9), (4, 0))

    def test_no_kind(self):
        picker = Picker(TWO, (7, 10))
        for deed in (picker.pack, picker.unpack):
            for kind in (-1, 3, 4, -3, GREAT):
                self.unchanged(picker, NoKind, {"kind": kind}, deed, kind)
                self.unchanged(picker, NoKind, {"kind": kind}, deed, kind, times=0)
                self.unchanged(picker, NoKind, {"kind": kind}, deed, kind, times=GREAT)

    def test_short(self):
        picker = Picker(((2, 1, 0), (1, 1, 1), (0, 0, 4)), (3, 1, 9))
        self.unchanged(picker, Short, {"place": 0}, picker.pack, 0, times=2)
        self.unchanged(picker, Short, {"place": 1}, picker.pack, 1, times=2)
        self.unchanged(picker, Short, {"place": 2}, picker.pack, 2, times=3)
        self.unchanged(picker, Short, {"place": 0}, picker.pack, 1, times=10)
        picker.pack(2, times=2)
        self.unchanged(picker, Short, {"place": 2}, picker.unpack, 2, times=3)
        self.unchanged(picker, Short, {"place": 0}, picker.unpack, 0)
        self.unchanged(picker, Short, {"place": 1}, picker.unpack, 1)
        self.unchanged(picker, Short, {"place": 2}, picker.unpack, 2, times=GREAT)
        picker.undo()
        self.unchanged(picker, Short, {"place": 0}, picker.pack, 0, times=2)
        self.assertEqual(picker.left(), (0, 1))

    def test_great_numbers(self):
        picker = Picker(((6,), (5,)), (GREAT - 1,))
        picker.pack(0, times=10 ** 29)
        self.stands(picker, (10 ** 29, 0), (4 * 10 ** 29 - 1,), (1, 0))
        self.unchanged(picker, Short, {"place": 0}, picker.pack, 1, times=10 ** 29)
        picker.unpack(0, times=10 ** 29)
        self.stands(picker, (0, 0), (GREAT - 1,), (2, 0))


class SwapTest(PickerCase):
    def test_swapping(self):
        picker = Picker(TWO, (12, 12))
        picker.pack(2, times=12)
        self.assertIsNone(picker.swap((3, 2, -6)))
        self.stands(picker, (3, 2, 6), (0, 0), (2, 0))
        picker.swap((3, 2, -6))
        self.stands(picker, (6, 4, 0), (0, 0), (3, 0))
        picker.swap((-3, -2, 6), times=2)
        self.stands(picker, (0, 0, 12), (0, 0), (4, 0))
        picker.swap((6, 4, -12))
        self.stands(picker, (6, 4, 0), (0, 0), (5, 0))
        self.assertEqual(picker.bill(), (12, 12))

    def test_what_changes_nothing_is_a_deed(self):
        picker = Picker(TWO, (12, 12))
        self.assertIsNone(picker.swap((0, 0, 0)))
        picker.swap((0, 0, 0), times=GREAT)
        picker.swap((3, 2, -6), times=0)
        self.stands(picker, (0, 0, 0), (12, 12), (3, 0))

    def test_refusals(self):
        picker = Picker(TWO, (12, 12))
        picker.pack(2, times=7)
        for change, good in [
            ((), -1), ((3, 2), -1), ((0, 0, 0, 0), -1), ((1, 0, 0), 0), ((3, 2, -5), 0), ((0, 1, 0), 1),
            ((1, 1, -2), 1), ((GREAT, 0, 0), 0),
        ]:
            self.unchanged(picker, BadSwap, {"good": good}, picker.swap, change)
            self.unchanged(picker, BadSwap, {"good": good}, picker.swap, change, times=0)
        self.unchanged(picker, Short, {"place": 2}, picker.swap, (3, 2, -6), times=2)
        self.unchanged(picker, Short, {"place": 0}, picker.swap, (-3, -2, 6))
        picker.unpack(2, times=6)
        picker.pack(0, times=3)
        self.unchanged(picker, Short, {"place": 1}, picker.swap, (-3, -2, 6))
        self.unchanged(picker, Short, {"place": 0}, picker.swap, (-3, -2, 6), times=GREAT)
        self.unchanged(picker, Short, {"place": 2}, picker.swap, (3, 2, -6))


class BetterTest(PickerCase):
    def test_the_first_told_one_that_fits(self):
        draw = random.Random(91)
        for lot in FEW + some_lots(92, 15, kinds=(2, 3, 4)):
            for wish in [(), tuple(draw.randint(-99, 99) for _ in lot)]:
                bill = tuple(draw.randrange(12) for _ in lot[0])
                picker = Picker(lot, bill, wish=wish)
                pairs = betterings(lot, wish=wish)
                deeds = 0
                while True:
                    load = (picker.counts(), picker.loose())
                    fitting = [pair for pair in pairs if fits(load, pair[0])]
                    self.assertIs(picker.is_best(), not fitting)
                    self.assertEqual(picker.is_best(), load == best_load(lot, bill, wish=wish))
                    told = picker.better()
                    if not fitting:
                        self.assertIsNone(told)
                        self.stands(picker, *load, (deeds, 0))
                        break
                    deeds += 1
                    self.assertEqual(told, fitting[0])
                    needy, best = told
                    counts = plus(plus(load[0], needy[0], -1), best[0])
                    loose = plus(plus(load[1], needy[1], -1), best[1])
                    self.stands(picker, counts, loose, (deeds, 0))
                self.assertEqual((picker.counts(), picker.loose()), plain_best(lot, bill, wish))

    def test_where_none_fits_what_can_be_done_again_stays(self):
        picker = Picker(TWO, (12, 12))
        picker.finish()
        picker.grow((1, 1))
        picker.undo()
        self.assertIsNone(picker.better())
        self.assertEqual(picker.left(), (1, 1))
        picker.redo()
        self.assertEqual(picker.bill(), (13, 13))

    def test_one_that_fits_ends_what_can_be_done_again(self):
        picker = Picker(TWO, (12, 12))
        picker.pack(0)
        picker.undo()
        self.assertIsNotNone(picker.better())
        self.assertEqual(picker.left(), (1, 0))

    def test_great_bills(self):
        picker = Picker(TWO, (GREAT - 1, 10 ** 29))
        self.assertIs(picker.is_best(), False)
        load = (picker.counts(), picker.loose())
        told = picker.better()
        self.assertEqual(told, [pair for pair in betterings(TWO) if fits(load, pair[0])][0])
        picker.finish()
        self.assertIsNone(picker.better())
        self.assertIs(picker.is_best(), True)
        self.assertEqual(goods_in(TWO, picker.counts()), (GREAT - 1, 10 ** 29))


class FinishTest(PickerCase):
    def test_the_best_load_whatever_was_done_ahead(self):
        draw = random.Random(93)
        for lot in FEW + some_lots(94, 20, kinds=(2, 3, 4)):
            wish = draw.choice([(), tuple(draw.randint(-99, 99) for _ in lot)])
            bill = tuple(draw.randrange(9) for _ in lot[0])
            want = plain_best(lot, bill, wish)
            picker = Picker(lot, bill, wish=wish)
            for _ in range(3):
                for kind in draw.sample(range(len(lot)), len(lot)):
                    if min(plus(picker.loose(), lot[kind], -1)) >= 0:
                        picker.pack(kind)
                before = picker.left()
                self.assertIsNone(picker.finish())
                self.stands(picker, *want, (before[0] + 1, 0))
                self.assertIs(picker.is_best(), True)
                for kind, count in enumerate(picker.counts()):
                    picker.unpack(kind, times=draw.randint(0, count))

    def test_a_deed_also_where_it_changes_nothing(self):
        picker = Picker(TWO, (12, 12))
        picker.finish()
        picker.finish()
        self.assertEqual(picker.left(), (2, 0))
        picker.undo()
        self.assertIs(picker.is_best(), True)
        picker.undo()
        self.assertIs(picker.is_best(), False)

    def test_great_bills(self):
        draw = random.Random(95)
        for lot in FEW + some_lots(96, 12, kinds=(4, 5)):
            wish = draw.choice([(), tuple(draw.randint(-99, 99) for _ in lot)])
            bill = tuple(draw.choice((GREAT - 1, draw.randrange(GREAT), 5)) for _ in lot[0])
            picker = Picker(lot, bill, wish=wish)
            picker.finish()
            self.assertEqual((picker.counts(), picker.loose()), best_load(lot, bill, wish=wish))
            self.assertIs(picker.is_best(), True)
            for swap in ground(lot):
                for way in (swap, turned(swap)):
                    if min(plus(picker.counts(), way)) >= 0:
                        picker.swap(way)
                        self.assertIs(picker.is_best(), False)
                        picker.finish()
                        self.assertIs(picker.is_best(), True)
                        break
                else:
                    continue
                break


class GrowTest(PickerCase):
    def test_growing(self):
        picker = Picker(TWO, (2, 3))
        picker.finish()
        self.assertIs(picker.is_best(), True)
        self.assertIsNone(picker.grow((1, 1)))
        self.assertEqual(picker.bill(), (3, 4))
        self.stands(picker, (1, 1, 0), (1, 1), (2, 0))
        self.assertIs(picker.is_best(), False)
        self.assertEqual(picker.better(), (((0, 0, 0), (1, 1)), ((0, 0, 1), (0, 0))))
        self.assertIs(picker.is_best(), True)
        picker.grow((0, 0))
        self.assertEqual(picker.left(), (4, 0))
        picker.undo()
        picker.undo()
        self.assertEqual(picker.bill(), (3, 4))
        picker.undo()
        self.assertEqual(picker.bill(), (2, 3))
        self.stands(picker, (1, 1, 0), (0, 0), (1, 3))
        picker.redo()
        self.assertEqual(picker.bill(), (3, 4))

    def test_bad_bills(self):
        picker = Picker(TWO, (7, 10))
        for goods, good in NO_BILLS:
            self.unchanged(picker, BadBill, {"good": good}, picker.grow, goods)
        self.unchanged(picker, BadBill, {"good": 0}, picker.grow, (GREAT - 7, 0))
        self.unchanged(picker, BadBill, {"good": 1}, picker.grow, (GREAT - 8, GREAT - 10))
        self.unchanged(picker, BadBill, {"good": 0}, picker.grow, (GREAT - 1, GREAT - 1))
        # Of the goods ahead of the grown bill.
        self.unchanged(picker, BadBill, {"good": 1}, picker.grow, (GREAT - 1, -1))
        picker.grow((GREAT - 8, GREAT - 11))
        self.assertEqual(picker.bill(), (GREAT - 1, GREAT - 1))
        self.assertEqual(picker.loose(), (GREAT - 1, GREAT - 1))
        self.unchanged(picker, BadBill, {"good": 1}, picker.grow, (0, 1))
        picker.grow((0, 0))
        self.assertEqual(picker.left(), (2, 0))

    def test_it_comes_to_the_best_load_of_the_grown_bill(self):
        picker = Picker(((6,), (4,)), (2,), wish=(3, -5))
        picker.finish()
        picker.grow((10 ** 29,))
        picker.finish()
        self.assertEqual((picker.counts(), picker.loose()), best_load(((6,), (4,)), (10 ** 29 + 2,), wish=(3, -5)))


class UndoTest(PickerCase):
    def test_nothing_left(self):
        picker = Picker(TWO, (7, 10))
        self.unchanged(picker, NothingLeft, {"word": "nothing left"}, picker.undo)
        self.unchanged(picker, NothingLeft, {}, picker.redo)
        picker.pack(0)
        self.unchanged(picker, NothingLeft, {}, picker.redo)
        picker.undo()
        self.unchanged(picker, NothingLeft, {}, picker.undo)
        picker.redo()
        self.unchanged(picker, NothingLeft, {}, picker.redo)

    def test_to_the_beginning_and_to_the_end(self):
        picker = Picker(TWO, (7, 10))
        deeds = [
            lambda: picker.pack(0, times=2), lambda: picker.pack(2, times=0), lambda: picker.unpack(0),
            lambda: picker.grow((3, 8)), picker.better, lambda: picker.swap((0, 0, 0)), picker.finish, picker.finish,
        ]
        told = [told_by(picker)[:5] + told_by(picker)[6:]]
        for deed in deeds:
            deed()
            told.append(told_by(picker)[:5] + told_by(picker)[6:])
        for done in reversed(range(len(deeds))):
            self.assertIsNone(picker.undo())
            self.assertEqual(told_by(picker)[:5] + told_by(picker)[6:], told[done])
            self.assertEqual(picker.left(), (done, len(deeds) - done))
        for done in range(1, len(deeds) + 1):
            self.assertIsNone(picker.redo())
            self.assertEqual(told_by(picker)[:5] + told_by(picker)[6:], told[done])
            self.assertEqual(picker.left(), (done, len(deeds) - done))

    def test_another_deed_behind_taking_back(self):
        for deed in [
            lambda picker: picker.pack(1), lambda picker: picker.unpack(0), lambda picker: picker.swap((0, 0, 0)),
            lambda picker: picker.finish(), lambda picker: picker.grow((0, 0)), lambda picker: picker.better(),
            lambda picker: picker.pack(0, times=0),
        ]:
            picker = Picker(TWO, (7, 10))
            picker.pack(0)
            picker.pack(2)
            picker.undo()
            deed(picker)
            self.assertEqual(picker.left(), (2, 0))
            self.unchanged(picker, NothingLeft, {}, picker.redo)

    def test_a_refused_deed_behind_taking_back(self):
        picker = Picker(TWO, (7, 10))
        picker.pack(0)
        picker.undo()
        self.unchanged(picker, Short, {"place": 0}, picker.pack, 0, times=9)
        self.unchanged(picker, BadSwap, {"good": -1}, picker.swap, ())
        self.unchanged(picker, BadBill, {"good": -1}, picker.grow, ())
        self.assertEqual(picker.left(), (0, 1))
        picker.redo()
        self.stands(picker, (1, 0, 0), (5, 10), (1, 0))


class TwinTest(PickerCase):
    def test_a_twin_has_all(self):
        picker = Picker(TWO, (7, 10), wish=(3, 2, 1))
        picker.pack(0)
        picker.grow((1, 1))
        picker.pack(1)
        picker.undo()
        twin = picker.twin()
        self.assertIsInstance(twin, Picker)
        self.assertEqual(told_by(twin), told_by(picker))
        self.assertEqual(twin, picker)
        twin.redo()
        self.stands(twin, (1, 1, 0), (6, 8), (3, 0))
        self.stands(picker, (1, 0, 0), (6, 11), (2, 1))

    def test_each_goes_its_own_way(self):
        picker = Picker(TWO, (7, 10))
        picker.pack(0)
        twin = picker.twin()
        further = twin.twin()
        picker.undo()
        twin.finish()
        further.grow((5, 5))
        self.stands(picker, (0, 0, 0), (7, 10), (0, 1))
        self.assertEqual((twin.counts(), twin.loose()), best_load(TWO, (7, 10)))
        self.stands(further, (1, 0, 0), (10, 15), (2, 0))
        self.assertEqual(twin.left(), (2, 0))
        for each in (twin, further):
            each.undo()
            self.stands(each, (1, 0, 0), (5, 10), (1, 1))
        picker.redo()
        self.assertTrue(picker == twin == further)
        twin.undo()
        self.assertEqual(twin.left(), (0, 2))
        self.assertEqual(picker.left(), (1, 0))
        self.assertEqual(further.left(), (1, 1))
        picker.better()
        self.assertEqual(further.counts(), (1, 0, 0))

    def test_pickers_made_apart(self):
        one, other = Picker(TWO, (7, 10)), Picker(TWO, (7, 10))
        one.pack(0)
        self.stands(other, (0, 0, 0), (7, 10), (0, 0))


class EqualTest(PickerCase):
    def test_equal(self):
        picker = Picker(TWO, (7, 10))
        self.assertTrue(picker == Picker(TWO, (7, 10)))
        self.assertFalse(picker != Picker(TWO, (7, 10)))
        self.assertFalse(picker == Picker(TWO, (7, 11)))
        self.assertFalse(picker == Picker(TWO, (7, 10), wish=(1, 1, 1)))
        self.assertFalse(picker == Picker(((0, 3), (2, 0), (1, 1)), (7, 10)))
        other = Picker(TWO, (7, 10))
        other.pack(0)
        self.assertFalse(picker == other)
        other.unpack(0)
        # What can be taken back doesn't matter.
        self.assertTrue(picker == other)
        grown = Picker(TWO, (6, 8))
        grown.grow((1, 2))
        self.assertTrue(picker == grown)
        self.assertTrue(Picker(TWO, (7, 10), wish=(3, 2, 1)) == Picker(TWO, (7, 10), wish=(3, 2, 1)))
        self.assertFalse(Picker(TWO, (7, 10), wish=(3, 2, 1)) == Picker(TWO, (7, 10), wish=(3, 2, 2)))

    def test_to_nothing_else(self):
        picker = Picker(TWO, (7, 10))
        for other in (None, 0, "0,0,0", (0, 0, 0), [], ((0, 0, 0), (7, 10)), {}, TWO):
            self.assertFalse(picker == other)
            self.assertTrue(picker != other)

    def test_texts(self):
        picker = Picker(((1,),), (GREAT - 1,))
        self.assertEqual(repr(picker), f"Picker(1 kinds, {GREAT - 1} loose)")
        picker.pack(0, times=GREAT - 1)
        self.assertEqual(str(picker), str(GREAT - 1))
        self.assertEqual(repr(picker), "Picker(1 kinds, 0 loose)")
        self.assertEqual(repr(Picker(((1, 1), (2, 1)), (2, 3))), "Picker(2 kinds, 5 loose)")

    def test_len_counts_kinds(self):
        picker = Picker(((1,), (1,), (2,)), (9,))
        picker.pack(1, times=4)
        self.assertEqual((len(picker), picker.hampers()), (1, 4))
        picker.pack(2)
        self.assertEqual((len(picker), picker.hampers()), (2, 5))
        picker.unpack(1, times=4)
        self.assertEqual((len(picker), picker.hampers()), (1, 1))


class WalkTest(PickerCase):
    """Long rows of deeds, beside a plain list of all that was."""

    def next_state(self, lot, wish, pairs, state, word, thing, times):
        """The bill and the load behind a deed, or the refusal with its field."""
        bill, counts, loose = state
        if word in ("pack", "unpack"):
            if thing not in range(len(lot)):
                return NoKind, thing
            many = times if word == "pack" else -times
            counts = tuple(count + many * (kind == thing) for kind, count in enumerate(counts))
            loose = plus(loose, lot[thing], -many)
        elif word == "swap":
            goods = goods_in(lot, thing)
            if any(goods):
                return BadSwap, [bool(amount) for amount in goods].index(True)
            counts = plus(counts, thing, times)
        elif word == "better":
            fitting = [pair for pair in pairs if fits((counts, loose), pair[0])]
            if not fitting:
                return None
            needy, best = fitting[0]
            counts, loose = plus(plus(counts, needy[0], -1), best[0]), plus(plus(loose, needy[1], -1), best[1])
        elif word == "finish":
            counts, loose = plain_best(lot, bill, wish)
        else:
            bill, loose = plus(bill, thing), plus(loose, thing)
        for row in (counts, loose):
            if min(row) < 0:
                return Short, [number < 0 for number in row].index(True)
        return bill, counts, loose

    def do(self, picker, word, thing, times):
        if word in ("pack", "unpack", "swap"):
            return getattr(picker, word)(thing, times=times)
        return picker.grow(thing) if word == "grow" else getattr(picker, word)()

    def a_thing(self, draw, lot, word):
        if word == "swap":
            swaps = ground(lot)
            rows = swaps + [turned(swap) for swap in swaps] + [(0,) * len(lot)]
            return draw.choice(rows + [tuple(draw.randint(-2, 2) for _ in lot)])
        if word == "grow":
            return tuple(draw.randrange(3) for _ in lot[0])
        return draw.randint(-1, len(lot)) if draw.random() < 0.1 else draw.randrange(len(lot))

    def walk(self, draw, lot, wish):
        bill = tuple(draw.randrange(7) for _ in lot[0])
        picker = Picker(lot, bill, wish=wish)
        states, at = [(bill, (0,) * len(lot), bill)], 0
        pairs = betterings(lot, wish=wish)
        for _ in range(40):
            word = draw.choice(("pack", "pack", "unpack", "swap", "better", "finish", "grow", "undo", "undo", "redo"))
            if word in ("undo", "redo"):
                to = at - 1 if word == "undo" else at + 1
                if to in range(len(states)):
                    getattr(picker, word)()
                    at = to
                else:
                    self.refused(NothingLeft, {}, getattr(picker, word))
            else:
                thing, times = self.a_thing(draw, lot, word), draw.choice((0, 1, 1, 2, 3))
                if sum(states[at][0]) > 14 and word == "grow":
                    continue
                fresh = self.next_state(lot, wish, pairs, states[at], word, thing, times)
                if fresh is None:
                    self.assertIsNone(picker.better())
                elif len(fresh) == 2:
                    with self.assertRaises(fresh[0]) as caught:
                        self.do(picker, word, thing, times)
                    self.assertIn(fresh[1], vars(caught.exception).values())
                else:
                    self.do(picker, word, thing, times)
                    states[at + 1:] = [fresh]
                    at += 1
            self.assertEqual((picker.bill(), picker.counts(), picker.loose()), states[at])
            self.assertEqual(picker.left(), (at, len(states) - 1 - at))
            best = plain_best(lot, picker.bill(), wish)
            self.assertIs(picker.is_best(), (picker.counts(), picker.loose()) == best)

    def test_walks(self):
        draw = random.Random(97)
        for lot in FEW + some_lots(98, 12, kinds=(2, 3, 4), hold=4):
            with self.subTest(lot):
                self.walk(draw, lot, draw.choice([(), tuple(draw.randint(-9, 9) for _ in lot)]))


if __name__ == "__main__":
    unittest.main()
