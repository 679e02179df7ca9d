"""A yard's deeds, steps, twins: hamperlot.yard."""

import random
import unittest

from hamperlot.betterings import betterings
from hamperlot.errors import (
    BadDeed, BadLot, BadName, BadOrder, LotError, Missing, NoKind, NoLot, NothingLeft, Taken, TooMany,
)
from hamperlot.moves import moves
from hamperlot.swaps import ground
from hamperlot.yard import MOST_LOTS, Yard
from plain import some_lots
from refusing import NO_LOTS, RefusingCase

ONE = ((2,), (3,))
TWO = ((2, 0), (0, 3), (1, 1))
FIVE = ((1,), (2,), (3,), (4,), (5,))
FUNCTIONS = {"ground": ground, "moves": moves, "betterings": betterings}
NO_NAMES = ["", "A", "aB", "ninechars", "a b", " a", "a ", "a1", "1", "-", "a\n", "a-b", "abcdefgh1", "lot_"]


def told_by(yard):
    """All that a yard tells."""
    return (
        yard.names(), [yard.lot(name) for name in yard.names()], yard.steps(), yard.kept(), yard.made(), len(yard),
        str(yard), repr(yard), what_can_be_done_again(yard),
    )


def what_can_be_done_again(yard):
    twin, told = yard.twin(), []
    while True:
        try:
            told.append(twin.redo())
        except NothingLeft:
            return told


class YardCase(RefusingCase):
    def unchanged(self, yard, refusal, fields, function, *places, **names):
        """The call is refused, and changes nothing."""
        before = told_by(yard)
        self.refused(refusal, fields, function, *places, **names)
        self.assertEqual(told_by(yard), before)

    def deed_refused(self, yard, refusal, fields, word, *things):
        """So by its method, by do, and as one of several."""
        self.unchanged(yard, refusal, fields, getattr(yard, word), *things)
        self.unchanged(yard, refusal, fields, yard.do, (word, *things))
        self.unchanged(yard, refusal, fields, yard.all_of, [(word, *things)])
        self.unchanged(yard, refusal, fields, yard.all_of, [(word, *things), ("what",), ()])

    def deed_done(self, yard, word, *things):
        """So by its method, by do, and as one of several: twins are alike behind it. The yard has it done, too."""
        by_do, by_all = yard.twin(), yard.twin()
        self.assertIsNone(getattr(yard, word)(*things))
        self.assertIsNone(by_do.do((word, *things)))
        self.assertIsNone(by_all.all_of([(word, *things)]))
        self.assertEqual(told_by(by_do), told_by(yard))
        self.assertEqual(told_by(by_all), told_by(yard))
        self.assertEqual(yard.steps()[-1], [(word, *things)])


class BeginningTest(YardCase):
    def test_an_empty_yard(self):
        for yard in (Yard(), Yard(limit=1), Yard(limit=8)):
            self.assertEqual(yard.names(), [])
            self.assertEqual(yard.steps(), [])
            self.assertEqual(yard.kept(), [])
            self.assertEqual(yard.made(), 0)
            self.assertEqual(len(yard), 0)
            self.assertEqual(str(yard), "")
            self.assertEqual(repr(yard), "Yard(0 lots)")
            self.refused(NothingLeft, {}, yard.undo)
            self.refused(NothingLeft, {}, yard.redo)
            self.refused(NoLot, {"name": "a"}, yard.lot, "a")
        self.assertEqual(MOST_LOTS, 8)

    def test_limits(self):
        for limit in range(1, 9):
            yard = Yard(limit=limit)
            for many in range(limit):
                yard.lay("abcdefgh"[many], ONE)
            self.deed_refused(yard, TooMany, {"most": limit}, "lay", "z", ONE)
            self.deed_refused(yard, TooMany, {"most": limit}, "beside", "z", "a", "a")
            yard.drop("a")
            yard.lay("z", ONE)
            self.assertEqual(len(yard), limit)

    def test_the_default_limit(self):
        yard = Yard()
        for letter in "abcdefgh":
            yard.lay(letter, ONE)
        self.deed_refused(yard, TooMany, {"most": 8}, "lay", "i", ONE)
        self.assertEqual(repr(yard), "Yard(8 lots)")


class DeedsTest(YardCase):
    def setUp(self):
        self.yard = Yard(limit=4)
        self.yard.lay("plain", ONE)
        self.yard.lay("wide", TWO)

    def test_lay(self):
        self.deed_done(self.yard, "lay", "a", FIVE)
        self.deed_done(self.yard, "lay", "abcdefgh", FIVE)
        self.assertEqual(self.yard.names(), ["a", "abcdefgh", "plain", "wide"])
        self.assertEqual(self.yard.lot("a"), FIVE)
        self.assertEqual(self.yard.lot("plain"), ONE)

    def test_lay_refused(self):
        full = Yard(limit=1)
        full.lay("a", ONE)
        for name in NO_NAMES:
            self.deed_refused(self.yard, BadName, {}, "lay", name, ONE)
            self.deed_refused(full, BadName, {}, "lay", name, ())
        self.deed_refused(self.yard, Taken, {"name": "wide"}, "lay", "wide", TWO)
        self.deed_refused(full, Taken, {"name": "a"}, "lay", "a", ())
        self.deed_refused(full, TooMany, {"most": 1}, "lay", "b", ())
        for lot, kind in NO_LOTS:
            self.deed_refused(self.yard, BadLot, {"kind": kind}, "lay", "b", lot)

    def test_drop(self):
        self.deed_done(self.yard, "drop", "plain")
        self.assertEqual(self.yard.names(), ["wide"])
        self.refused(NoLot, {"name": "plain"}, self.yard.lot, "plain")
        self.deed_refused(self.yard, NoLot, {"name": "plain"}, "drop", "plain")
        for name in NO_NAMES:
            self.deed_refused(self.yard, NoLot, {"name": name}, "drop", name)

    def test_call(self):
        self.deed_done(self.yard, "call", "plain", "z")
        self.assertEqual(self.yard.names(), ["wide", "z"])
        self.assertEqual(self.yard.lot("z"), ONE)
        self.deed_done(self.yard, "call", "z", "plain")
        self.assertEqual(self.yard.names(), ["plain", "wide"])
        # Also where the yard is full.
        full = Yard(limit=1)
        full.lay("a", ONE)
        self.deed_done(full, "call", "a", "b")

    def test_call_refused(self):
        self.deed_refused(self.yard, NoLot, {"name": "none"}, "call", "none", "z")
        self.deed_refused(self.yard, NoLot, {"name": "none"}, "call", "none", "BAD")
        self.deed_refused(self.yard, NoLot, {"name": "none"}, "call", "none", "wide")
        self.deed_refused(self.yard, NoLot, {"name": "none"}, "call", "none", "none")
        for name in NO_NAMES:
            self.deed_refused(self.yard, BadName, {}, "call", "plain", name)
        self.deed_refused(self.yard, Taken, {"name": "wide"}, "call", "plain", "wide")
        self.deed_refused(self.yard, Taken, {"name": "plain"}, "call", "plain", "plain")

    def test_put(self):
        self.deed_done(self.yard, "put", "wide", (6, 6))
        self.assertEqual(self.yard.lot("wide"), (*TWO, (6, 6)))
        self.deed_done(self.yard, "put", "wide", (2, 0))
        self.assertEqual(self.yard.lot("wide"), (*TWO, (6, 6), (2, 0)))
        self.assertEqual(self.yard.lot("plain"), ONE)

    def test_put_refused(self):
        self.deed_refused(self.yard, NoLot, {"name": "none"}, "put", "none", (1,))
        self.deed_refused(self.yard, NoLot, {"name": "none"}, "put", "none", ())
        for hold in [(), (1,), (1, 1, 1), (0, 0), (7, 0), (0, -1)]:
            self.deed_refused(self.yard, BadLot, {"kind": 3}, "put", "wide", hold)
        self.yard.lay("five", FIVE)
        self.deed_refused(self.yard, BadLot, {"kind": -1}, "put", "five", (1,))
        self.deed_refused(self.yard, BadLot, {"kind": -1}, "put", "five", ())

    def test_cut(self):
        self.deed_done(self.yard, "cut", "wide", 1)
        self.assertEqual(self.yard.lot("wide"), ((2, 0), (1, 1)))
        self.deed_done(self.yard, "cut", "wide", 1)
        self.assertEqual(self.yard.lot("wide"), ((2, 0),))

    def test_cut_refused(self):
        for kind in (0, -1, 9):
            self.deed_refused(self.yard, NoLot, {"name": "none"}, "cut", "none", kind)
        for kind in (-1, -2, 2, 3, 9):
            self.deed_refused(self.yard, NoKind, {"kind": kind}, "cut", "plain", kind)
        self.yard.cut("plain", 0)
        self.deed_refused(self.yard, BadLot, {"kind": -1}, "cut", "plain", 0)
        # Of the last one, too, NoKind goes first.
        self.deed_refused(self.yard, NoKind, {"kind": 1}, "cut", "plain", 1)
        self.deed_refused(self.yard, NoKind, {"kind": -1}, "cut", "plain", -1)

    def test_turn(self):
        self.deed_done(self.yard, "turn", "wide", (1, 2, 0))
        self.assertEqual(self.yard.lot("wide"), ((0, 3), (1, 1), (2, 0)))
        self.deed_done(self.yard, "turn", "wide", (0, 1, 2))
        self.assertEqual(self.yard.lot("wide"), ((0, 3), (1, 1), (2, 0)))

    def test_turn_refused(self):
        self.deed_refused(self.yard, NoLot, {"name": "none"}, "turn", "none", (0, 1))
        self.deed_refused(self.yard, NoLot, {"name": "none"}, "turn", "none", ())
        for order in [(), (0,), (0, 0), (0, 2), (0, 1, 2), (-1, 0), (1, 1), (0, -1)]:
            self.deed_refused(self.yard, BadOrder, {}, "turn", "plain", order)

    def test_beside(self):
        self.deed_done(self.yard, "beside", "both", "plain", "wide")
        self.assertEqual(self.yard.lot("both"), ((2, 0, 0), (3, 0, 0), (0, 2, 0), (0, 0, 3), (0, 1, 1)))
        self.deed_done(self.yard, "beside", "twice", "plain", "plain")
        self.assertEqual(self.yard.lot("twice"), ((2, 0), (3, 0), (0, 2), (0, 3)))
        self.assertEqual(self.yard.names(), ["both", "plain", "twice", "wide"])

    def test_beside_refused(self):
        for name in NO_NAMES:
            self.deed_refused(self.yard, BadName, {}, "beside", name, "none", "nor")
        self.deed_refused(self.yard, Taken, {"name": "plain"}, "beside", "plain", "none", "nor")
        self.deed_refused(self.yard, NoLot, {"name": "none"}, "beside", "both", "none", "nor")
        self.deed_refused(self.yard, NoLot, {"name": "none"}, "beside", "both", "none", "plain")
        self.deed_refused(self.yard, NoLot, {"name": "nor"}, "beside", "both", "plain", "nor")
        self.deed_refused(self.yard, NoLot, {"name": "both"}, "beside", "both", "both", "plain")
        # Too many goods, too many kinds.
        self.deed_refused(self.yard, BadLot, {"kind": -1}, "beside", "both", "wide", "wide")
        self.yard.lay("five", FIVE)
        self.deed_refused(self.yard, BadLot, {"kind": -1}, "beside", "both", "plain", "five")
        self.yard.lay("last", ONE)
        self.deed_refused(self.yard, TooMany, {"most": 4}, "beside", "both", "none", "nor")
        self.deed_refused(self.yard, TooMany, {"most": 4}, "beside", "both", "wide", "wide")
        self.deed_refused(self.yard, Taken, {"name": "wide"}, "beside", "wide", "wide", "wide")
        self.deed_refused(self.yard, BadName, {}, "beside", "WIDE", "wide", "wide")

    def test_bad_deeds(self):
        for deed in [
            (), ("",), ("lie", "a", ONE), ("Lay", "a", ONE), ("undo",), ("redo",), ("all_of", []),
            ("do", ("drop", "a")), ("lay",), ("lay", "a"), ("lay", "A"), ("lay", "a", ONE, 1),
            ("lay", "wide", ONE, ONE), ("drop",),
            ("drop", "plain", 1), ("drop", "none", "none"), ("call",), ("call", "plain"), ("call", "plain", "z", "y"),
            ("put", "wide"), ("put", "none"), ("put", "wide", (1, 1), -1), ("cut", "wide"), ("cut", "wide", 0, 0),
            ("turn", "wide"), ("turn", "plain", (1, 0), ()), ("beside", "both", "plain"), ("beside", "both"),
            ("beside", "both", "plain", "wide", "wide"), ("twin",), ("names",), ("lot", "plain"), ("ground", "plain"),
            ("__init__",), ("lay ", "a", ONE),
        ]:
            self.unchanged(self.yard, BadDeed, {"word": "bad deed"}, self.yard.do, deed)
            self.unchanged(self.yard, BadDeed, {}, self.yard.all_of, [("drop", "plain"), deed])


class SeveralTest(YardCase):
    def test_several_as_one_step(self):
        yard = Yard()
        deeds = [
            ("lay", "a", ONE), ("put", "a", (6,)), ("call", "a", "b"), ("turn", "b", (2, 1, 0)), ("lay", "a", TWO),
            ("cut", "a", 0),
        ]
        self.assertIsNone(yard.all_of(deeds))
        self.assertEqual(yard.names(), ["a", "b"])
        self.assertEqual(yard.lot("a"), TWO[1:])
        self.assertEqual(yard.lot("b"), ((6,), (3,), (2,)))
        self.assertEqual(yard.steps(), [deeds])
        self.assertEqual(yard.undo(), deeds)
        self.assertEqual(len(yard), 0)
        self.assertEqual(yard.redo(), deeds)
        self.assertEqual(yard.lot("b"), ((6,), (3,), (2,)))

    def test_the_list_stays_the_askers(self):
        yard = Yard()
        deeds = [("lay", "a", ONE)]
        yard.all_of(deeds)
        deeds.append(("drop", "a"))
        self.assertEqual(yard.steps(), [[("lay", "a", ONE)]])
        self.assertEqual(yard.undo(), [("lay", "a", ONE)])
        self.assertEqual(deeds, [("lay", "a", ONE), ("drop", "a")])

    def test_none(self):
        yard = Yard()
        yard.lay("a", ONE)
        yard.lay("b", ONE)
        yard.undo()
        self.assertIsNone(yard.all_of([]))
        self.assertEqual(yard.steps(), [[("lay", "a", ONE)], []])
        self.refused(NothingLeft, {}, yard.redo)
        self.assertEqual(yard.undo(), [])
        self.assertEqual(yard.names(), ["a"])
        self.assertEqual(yard.redo(), [])
        self.assertEqual(yard.undo(), [])
        self.assertEqual(yard.undo(), [("lay", "a", ONE)])
        self.assertEqual(yard.names(), [])

    def test_one_that_is_refused_in_the_midst(self):
        yard = Yard(limit=2)
        yard.lay("a", ONE)
        yard.lay("b", ONE)
        yard.undo()
        good = [("lay", "c", TWO), ("cut", "c", 0), ("drop", "a")]
        for bad, refusal, fields in [
            (("drop", "a"), NoLot, {"name": "a"}), (("lay", "c", ()), Taken, {"name": "c"}),
            (("lay", "d", ()), BadLot, {}), (("cut", "c", 2), NoKind, {"kind": 2}), (("what",), BadDeed, {}),
            ((), BadDeed, {}),
            (("turn", "c", (0, 2)), BadOrder, {}), (("call", "c", "C"), BadName, {}),
            (("put", "c", (1,)), BadLot, {"kind": 2}),
        ]:
            self.unchanged(yard, refusal, fields, yard.all_of, good + [bad])
            self.unchanged(yard, refusal, fields, yard.all_of, good + [bad, ("drop", "c")])
            self.unchanged(yard, refusal, fields, yard.all_of, good + [bad, ("what",)])
        self.unchanged(yard, TooMany, {"most": 2}, yard.all_of, [("lay", "x", ONE), ("lay", "y", ONE)])
        yard.redo()
        self.assertEqual(yard.names(), ["a", "b"])

    def test_the_limit_is_asked_at_each_deed(self):
        yard = Yard(limit=1)
        yard.all_of([("lay", "a", ONE), ("drop", "a"), ("lay", "b", ONE)])
        self.assertEqual(yard.names(), ["b"])

    def test_a_deed_that_is_none_is_refused_when_its_turn_comes(self):
        yard = Yard()
        self.unchanged(yard, NoLot, {"name": "a"}, yard.all_of, [("drop", "a"), ("what",)])
        self.unchanged(yard, BadDeed, {}, yard.all_of, [("what",), ("drop", "a")])


class UndoTest(YardCase):
    def test_to_the_beginning_and_to_the_end(self):
        yard = Yard()
        steps = [
            [("lay", "a", ONE)], [("lay", "b", TWO)], [], [("put", "a", (6,)), ("cut", "a", 0)], [("call", "b", "c")],
            [("turn", "a", (1, 0))], [("beside", "d", "a", "a")], [("drop", "a"), ("lay", "a", FIVE)], [("drop", "c")],
        ]
        pages = [str(yard)]
        for step in steps:
            yard.all_of(step)
            pages.append(str(yard))
        self.assertEqual(yard.steps(), steps)
        for done in reversed(range(len(steps))):
            self.assertEqual(yard.undo(), steps[done])
            self.assertEqual(str(yard), pages[done])
            self.assertEqual(yard.steps(), steps[:done])
        self.unchanged(yard, NothingLeft, {"word": "nothing left"}, yard.undo)
        for done, step in enumerate(steps):
            self.assertEqual(yard.redo(), step)
            self.assertEqual(str(yard), pages[done + 1])
            self.assertEqual(yard.steps(), steps[:done + 1])
        self.unchanged(yard, NothingLeft, {}, yard.redo)

    def test_another_step_behind_taking_back(self):
        for step in ([("lay", "c", ONE)], [], [("drop", "a")], [("turn", "a", (0, 1))]):
            yard = Yard()
            yard.lay("a", ONE)
            yard.lay("b", ONE)
            yard.undo()
            yard.all_of(step)
            self.unchanged(yard, NothingLeft, {}, yard.redo)
            self.assertEqual(yard.steps(), [[("lay", "a", ONE)], step])
            self.assertEqual(yard.undo(), step)
            self.assertEqual(yard.names(), ["a"])

    def test_a_refused_step_behind_taking_back(self):
        yard = Yard()
        yard.lay("a", ONE)
        yard.undo()
        self.unchanged(yard, NoLot, {"name": "a"}, yard.drop, "a")
        self.unchanged(yard, BadDeed, {}, yard.do, ())
        self.assertEqual(yard.redo(), [("lay", "a", ONE)])

    def test_what_is_told_is_the_askers(self):
        yard = Yard()
        yard.all_of([("lay", "a", ONE), ("lay", "b", TWO)])
        before = told_by(yard)
        yard.names().clear()
        yard.steps().clear()
        yard.steps()[0].clear()
        yard.steps()[0].append(("drop", "a"))
        yard.kept().append(("a", "ground"))
        self.assertEqual(told_by(yard), before)
        yard.undo().clear()
        yard.redo().append(("drop", "b"))
        self.assertEqual(told_by(yard), before)
        self.assertEqual(yard.undo(), [("lay", "a", ONE), ("lay", "b", TWO)])


class TwinTest(YardCase):
    def test_a_twin_has_all(self):
        yard = Yard(limit=3)
        yard.lay("a", ONE)
        yard.lay("b", TWO)
        yard.ground("a")
        yard.undo()
        twin = yard.twin()
        self.assertIsInstance(twin, Yard)
        self.assertEqual(told_by(twin), told_by(yard))
        self.assertEqual(twin.redo(), [("lay", "b", TWO)])
        self.assertEqual(yard.names(), ["a"])
        self.assertEqual(twin.undo(), [("lay", "b", TWO)])
        self.assertEqual(twin.undo(), [("lay", "a", ONE)])
        self.assertEqual(yard.names(), ["a"])
        self.assertEqual(yard.redo(), [("lay", "b", TWO)])

    def test_it_has_the_limit(self):
        twin = Yard(limit=1).twin().twin()
        twin.lay("a", ONE)
        self.deed_refused(twin, TooMany, {"most": 1}, "lay", "b", ONE)

    def test_each_goes_its_own_way(self):
        yard = Yard()
        yard.lay("a", ONE)
        twin = yard.twin()
        further = twin.twin()
        yard.lay("b", TWO)
        twin.put("a", (6,))
        further.undo()
        self.assertEqual(str(yard), "a 2 3\nb 2,0 0,3 1,1\n")
        self.assertEqual(str(twin), "a 2 3 6\n")
        self.assertEqual(str(further), "")
        self.assertEqual([len(each.steps()) for each in (yard, twin, further)], [2, 2, 0])
        self.assertEqual(further.redo(), [("lay", "a", ONE)])
        self.refused(NothingLeft, {}, twin.redo)
        twin.undo()
        self.assertTrue(twin == further)
        self.assertFalse(twin == yard)

    def test_yards_made_apart(self):
        one, other = Yard(), Yard()
        one.lay("a", ONE)
        one.ground("a")
        self.assertEqual(told_by(other), told_by(Yard()))


class EqualTest(YardCase):
    def test_equal(self):
        one, other = Yard(), Yard(limit=2)
        self.assertTrue(one == other)
        one.lay("a", ONE)
        self.assertFalse(one == other)
        self.assertTrue(one != other)
        other.lay("b", ONE)
        self.assertFalse(one == other)
        other.call("b", "a")
        self.assertTrue(one == other)
        self.assertFalse(one != other)
        other.turn("a", (1, 0))
        self.assertFalse(one == other)
        other.turn("a", (1, 0))
        one.lay("b", TWO)
        other.lay("b", TWO)
        other.ground("b")
        self.assertTrue(one == other)
        # The order in which they were laid doesn't matter.
        other.drop("a")
        other.lay("a", ONE)
        self.assertTrue(one == other)

    def test_to_nothing_else(self):
        yard = Yard()
        for other in (None, 0, "", [], (), {}, ONE):
            self.assertFalse(yard == other)
            self.assertTrue(yard != other)
        yard.lay("a", ONE)
        self.assertFalse(yard == {"a": ONE})
        self.assertFalse(yard == str(yard))

    def test_texts(self):
        yard = Yard()
        yard.lay("wide", TWO)
        self.assertEqual(repr(yard), "Yard(1 lots)")
        yard.lay("a", ONE)
        self.assertEqual(repr(yard), "Yard(2 lots)")
        self.assertEqual(str(yard), "a 2 3\nwide 2,0 0,3 1,1\n")
        self.assertEqual(len(yard), 2)

    def test_no_lot(self):
        yard = Yard()
        yard.lay("a", ONE)
        for name in ("b", "", "A", "aa"):
            self.unchanged(yard, NoLot, {"name": name}, yard.lot, name)


class PlainYard:
    """A yard that was written down the long way: each step has the lots behind it, told anew by the document."""

    def __init__(self, limit):
        self.limit = limit
        self.steps = []
        self.lots = [{}]
        self.at = 0
        self.kept = {}
        self.made = 0

    def deed(self, lots, kept, deed):
        counts = {"lay": 3, "drop": 2, "call": 3, "put": 3, "cut": 3, "turn": 3, "beside": 4}
        if not deed or counts.get(deed[0]) != len(deed):
            raise BadDeed()
        word, name, *things = deed
        if word in ("lay", "beside"):
            if not (name.isalpha() and name.islower() and name.isascii() and len(name) < 9):
                raise BadName()
            if name in lots:
                raise Taken(name)
            if len(lots) == self.limit:
                raise TooMany(self.limit)
            if word == "beside":
                for other in things:
                    if other not in lots:
                        raise NoLot(other)
                one, other = lots[things[0]], lots[things[1]]
                things = [tuple(hold + (0,) * len(other[0]) for hold in one)
                          + tuple((0,) * len(one[0]) + hold for hold in other)]
            fresh = things[0]
        elif name not in lots:
            raise NoLot(name)
        elif word == "drop":
            del lots[name]
            kept.pop(name, None)
            return
        elif word == "call":
            if not (things[0].isalpha() and things[0].islower() and len(things[0]) < 9):
                raise BadName()
            if things[0] in lots:
                raise Taken(things[0])
            lots[things[0]] = lots.pop(name)
            kept[things[0]] = kept.pop(name, set())
            return
        elif word == "put":
            fresh = (*lots[name], things[0])
        elif word == "cut":
            if things[0] not in range(len(lots[name])):
                raise NoKind(things[0])
            fresh = tuple(hold for kind, hold in enumerate(lots[name]) if kind != things[0])
        else:
            if sorted(things[0]) != list(range(len(lots[name]))):
                raise BadOrder()
            fresh = tuple(lots[name][kind] for kind in things[0])
        if not 1 <= len(fresh) <= 5 or not 1 <= len(fresh[0]) <= 3:
            raise BadLot(-1)
        for kind, hold in enumerate(fresh):
            if len(hold) != len(fresh[0]) or not any(hold) or not all(0 <= amount <= 6 for amount in hold):
                raise BadLot(kind)
        lots[name] = fresh
        kept[name] = {"ground"} & kept.get(name, set()) if word == "cut" else set()

    def all_of(self, deeds):
        lots, kept = dict(self.lots[self.at]), {name: set(texts) for name, texts in self.kept.items()}
        for deed in deeds:
            self.deed(lots, kept, deed)
        self.kept = kept
        self.steps[self.at:] = [deeds]
        self.lots[self.at + 1:] = [lots]
        self.at += 1

    def go(self, by):
        if not 0 <= self.at + by < len(self.lots):
            raise NothingLeft()
        before, after = self.lots[self.at], self.lots[self.at + by]
        self.kept = {name: texts for name, texts in self.kept.items() if after.get(name) == before[name]}
        self.at += by
        return self.steps[self.at if by < 0 else self.at - 1]

    def ask(self, name, text):
        if name not in self.lots[self.at]:
            raise NoLot(name)
        if text not in self.kept.setdefault(name, set()):
            self.made += 1
            self.kept[name].add(text)


class WalkTest(YardCase):
    """Long rows of steps, asks and takings back, of a yard and a plain one beside it."""

    LOTS = [lot for lot in some_lots(101, 60, kinds=(1, 2, 3), hold=3)] + [(), ((0,),), ((1,), (1, 1))]

    def a_deed(self, draw, lots):
        words = ("lay", "lay", "drop", "call", "call", "put", "put", "cut", "cut", "turn", "turn", "beside")
        word = draw.choice(words) if draw.random() < 0.97 else "oops"
        names = ["a", "b", "c", "d"]
        name, other = draw.choice(names), draw.choice(names + ["none", "N"])
        if word not in ("lay", "beside") and lots and draw.random() < 0.9:
            name = draw.choice(sorted(lots))
        many = len(lots.get(name, ((1,), (2,))))
        if word == "lay":
            return word, name, draw.choice(self.LOTS)
        if word == "drop":
            return (word, name) if draw.random() < 0.9 else (word,)
        if word == "call":
            return word, name, other
        if word == "put":
            return word, name, tuple(draw.randint(0, 3) for _ in (lots.get(name, ((1,),))[0]))
        if word == "cut":
            return word, name, draw.randint(-1, many) if draw.random() < 0.2 else draw.randrange(many)
        if word == "turn":
            order = draw.sample(range(many), many)
            return word, name, tuple(order) if draw.random() < 0.9 else (0,)
        return (word, name, other, draw.choice(names)) if word == "beside" else (word,)

    def both(self, one, other):
        """The same answer or the same refusal of two calls."""
        told = []
        for call in (one, other):
            try:
                told.append((None, call()))
            except (LotError, Missing, NothingLeft) as refusal:
                told.append((type(refusal), vars(refusal)))
        self.assertEqual(told[0], told[1])
        return told[0][0] is None

    def ask(self, yard, name, text):
        """What is told is what the function tells."""
        told = getattr(yard, text.strip())(name)
        self.assertEqual(told, FUNCTIONS[text.strip()](yard.lot(name)))

    def walk(self, draw):
        limit = draw.choice((2, 3, 4, 8))
        yard, plain = Yard(limit=limit), PlainYard(limit)
        done = 0
        for _ in range(120):
            lots = plain.lots[plain.at]
            choice = draw.random()
            if choice < 0.4:
                deeds = [self.a_deed(draw, lots) for _ in range(draw.choice((0, 1, 1, 1, 1, 2, 3)))]
                done += self.both(lambda: yard.all_of(deeds), lambda: plain.all_of(deeds))
            elif choice < 0.52:
                self.both(yard.undo, lambda: list(plain.go(-1)))
            elif choice < 0.6:
                self.both(yard.redo, lambda: list(plain.go(1)))
            else:
                name = draw.choice(sorted(lots) * 9 + ["a", "none"])
                text = draw.choice(("ground", "moves", "betterings "))
                self.both(lambda: self.ask(yard, name, text), lambda: plain.ask(name, text))
            lots = plain.lots[plain.at]
            self.assertEqual({name: yard.lot(name) for name in yard.names()}, lots)
            self.assertEqual(yard.names(), sorted(lots))
            self.assertEqual(yard.steps(), plain.steps[:plain.at])
            self.assertEqual(yard.kept(), sorted((name, text) for name in plain.kept for text in plain.kept[name]))
            self.assertEqual(yard.made(), plain.made)
            if draw.random() < 0.1:
                yard = yard.twin()
        return done, plain.made

    def test_walks(self):
        draw = random.Random(102)
        told = [self.walk(draw) for _ in range(240)]
        self.assertGreater(sum(done for done, _ in told), 3000)
        self.assertGreater(sum(made for _, made in told), 3000)


if __name__ == "__main__":
    unittest.main()
