"""What a yard makes, keeps, lets go and counts: hamperlot.yard."""

import unittest

from hamperlot.betterings import betterings
from hamperlot.errors import BadDeed, BadOrder, BadWish, NoKind, NoLot, Taken
from hamperlot.moves import moves
from hamperlot.pages import read_page
from hamperlot.swaps import ground
from hamperlot.yard import Yard
from plain import FEW, some_lots
from refusing import RefusingCase

TWO = ((2, 0), (0, 3), (1, 1))
ONE = ((1,), (2,), (3,))
ALL = ["betterings ", "betterings 3,2,1", "ground", "moves"]


def ask_all(yard, name):
    yard.ground(name)
    yard.moves(name)
    yard.betterings(name)
    yard.betterings(name, wish=(3, 2, 1))


def pairs(name, texts):
    return [(name, text) for text in texts]


class KeptCase(RefusingCase):
    def setUp(self):
        """Two lots of which all is kept."""
        self.yard = Yard(limit=4)
        self.yard.lay("a", ONE)
        self.yard.lay("b", TWO)
        ask_all(self.yard, "a")
        ask_all(self.yard, "b")

    def keeps(self, yard, kept, made):
        self.assertEqual(yard.kept(), kept)
        self.assertEqual(yard.made(), made)


class AskingTest(KeptCase):
    def test_told_is_what_the_functions_tell(self):
        for lot in FEW + some_lots(111, 12, kinds=(2, 3, 4)):
            yard = Yard()
            yard.lay("a", lot)
            for _ in range(2):
                self.assertEqual(yard.ground("a"), ground(lot))
                self.assertEqual(yard.moves("a"), moves(lot))
                for wish in [(), (1,) * len(lot), tuple(range(-2, len(lot) - 2))]:
                    self.assertEqual(yard.betterings("a", wish=wish), betterings(lot, wish=wish))
                self.assertEqual(yard.betterings("a"), betterings(lot))
            self.assertEqual(yard.made(), 5)

    def test_made_once_and_kept(self):
        yard = Yard()
        yard.lay("a", ONE)
        self.keeps(yard, [], 0)
        yard.moves("a")
        self.keeps(yard, [("a", "moves")], 1)
        yard.ground("a")
        self.keeps(yard, [("a", "ground"), ("a", "moves")], 2)
        yard.ground("a")
        yard.moves("a")
        self.keeps(yard, [("a", "ground"), ("a", "moves")], 2)
        yard.betterings("a")
        self.keeps(yard, [("a", "betterings "), ("a", "ground"), ("a", "moves")], 3)
        yard.betterings("a", wish=())
        self.assertEqual(yard.made(), 3)
        # Each wish by itself, also one that comes to the same.
        yard.betterings("a", wish=(1, 1, 1))
        yard.betterings("a", wish=(-99, 0, 99))
        yard.betterings("a", wish=(1, 1, 1))
        texts = ["betterings ", "betterings -99,0,99", "betterings 1,1,1", "ground", "moves"]
        self.keeps(yard, pairs("a", texts), 5)

    def test_by_names(self):
        self.keeps(self.yard, pairs("a", ALL) + pairs("b", ALL), 8)
        # Two names with one lot have nothing to do with one another.
        self.yard.lay("aa", ONE)
        self.yard.ground("aa")
        self.keeps(self.yard, pairs("a", ALL) + [("aa", "ground")] + pairs("b", ALL), 9)

    def test_asking_leaves_all_else_as_it_is(self):
        yard = Yard()
        yard.lay("a", ONE)
        yard.lay("b", ONE)
        yard.undo()
        ask_all(yard, "a")
        self.assertEqual(yard.steps(), [[("lay", "a", ONE)]])
        self.assertEqual(yard.lot("a"), ONE)
        self.assertEqual(yard.redo(), [("lay", "b", ONE)])

    def test_it_is_the_askers_own(self):
        for asked in (self.yard.ground, self.yard.moves, self.yard.betterings):
            told = asked("a")
            self.assertTrue(told)
            asked("a").clear()
            asked("a").append("plums")
            self.assertEqual(asked("a"), told)
        self.yard.kept().clear()
        self.keeps(self.yard, pairs("a", ALL) + pairs("b", ALL), 8)
        # The first one, too, which was made just then.
        fresh = Yard()
        fresh.lay("a", ONE)
        fresh.ground("a").clear()
        fresh.moves("a").clear()
        fresh.betterings("a").clear()
        self.assertEqual((fresh.ground("a"), fresh.moves("a")), (ground(ONE), moves(ONE)))
        self.assertEqual(fresh.betterings("a"), betterings(ONE))

    def test_refusals(self):
        kept = pairs("a", ALL) + pairs("b", ALL)
        for name in ("c", "", "A"):
            self.refused(NoLot, {"name": name}, self.yard.ground, name)
            self.refused(NoLot, {"name": name}, self.yard.moves, name)
            self.refused(NoLot, {"name": name}, self.yard.betterings, name)
            self.refused(NoLot, {"name": name}, self.yard.betterings, name, wish=(100,))
        for wish in [(1,), (1, 1), (1, 1, 1, 1), (100, 0, 0), (0, 0, -100)]:
            self.refused(BadWish, {}, self.yard.betterings, "a", wish=wish)
        self.keeps(self.yard, kept, 8)


class DeedsTest(KeptCase):
    def test_lay_and_beside_keep_all(self):
        self.yard.lay("c", TWO)
        self.keeps(self.yard, pairs("a", ALL) + pairs("b", ALL), 8)
        self.yard.cut("a", 0)
        self.yard.beside("d", "a", "a")
        self.keeps(self.yard, [("a", "ground")] + pairs("b", ALL), 8)

    def test_drop(self):
        self.yard.drop("a")
        self.keeps(self.yard, pairs("b", ALL), 8)
        # An equal lot by that name is another one.
        self.yard.lay("a", ONE)
        self.keeps(self.yard, pairs("b", ALL), 8)
        self.yard.ground("a")
        self.keeps(self.yard, [("a", "ground")] + pairs("b", ALL), 9)

    def test_dropped_and_laid_in_one_step(self):
        self.yard.all_of([("drop", "a"), ("lay", "a", ONE)])
        self.keeps(self.yard, pairs("b", ALL), 8)
        self.yard.moves("a")
        # Taken back, the lot is an equal one.
        self.yard.undo()
        self.keeps(self.yard, [("a", "moves")] + pairs("b", ALL), 9)
        self.yard.redo()
        self.keeps(self.yard, [("a", "moves")] + pairs("b", ALL), 9)

    def test_call_takes_it_along(self):
        self.yard.call("a", "c")
        self.keeps(self.yard, pairs("b", ALL) + pairs("c", ALL), 8)
        ask_all(self.yard, "c")
        self.assertEqual(self.yard.ground("c"), ground(ONE))
        self.assertEqual(self.yard.made(), 8)
        self.yard.call("c", "a")
        self.keeps(self.yard, pairs("a", ALL) + pairs("b", ALL), 8)

    def test_what_a_call_took_along_does_not_come_back_with_the_elder_name(self):
        self.yard.call("a", "c")
        self.yard.undo()
        self.keeps(self.yard, pairs("b", ALL), 8)
        self.yard.redo()
        self.keeps(self.yard, pairs("b", ALL), 8)

    def test_called_there_and_back_in_one_step(self):
        self.yard.all_of([("call", "a", "c"), ("call", "c", "a")])
        self.keeps(self.yard, pairs("a", ALL) + pairs("b", ALL), 8)
        self.yard.undo()
        self.keeps(self.yard, pairs("a", ALL) + pairs("b", ALL), 8)

    def test_names_changed_over_in_one_step(self):
        self.yard.all_of([("call", "a", "c"), ("call", "b", "a"), ("call", "c", "b")])
        self.keeps(self.yard, pairs("a", ALL) + pairs("b", ALL), 8)
        self.assertEqual(self.yard.ground("a"), ground(TWO))
        self.assertEqual(self.yard.moves("b"), moves(ONE))
        self.assertEqual(self.yard.betterings("b", wish=(3, 2, 1)), betterings(ONE, wish=(3, 2, 1)))
        self.assertEqual(self.yard.made(), 8)
        self.yard.undo()
        self.keeps(self.yard, [], 8)

    def test_names_changed_over_with_equal_lots(self):
        yard = Yard()
        yard.lay("a", ONE)
        yard.lay("b", ONE)
        yard.ground("a")
        yard.all_of([("call", "a", "c"), ("call", "b", "a"), ("call", "c", "b")])
        self.keeps(yard, [("b", "ground")], 1)
        # Each name has an equal lot behind it, so it keeps what is kept with it now.
        yard.undo()
        self.keeps(yard, [("b", "ground")], 1)

    def test_put(self):
        self.yard.put("a", (6,))
        self.keeps(self.yard, pairs("b", ALL), 8)
        self.assertEqual(self.yard.ground("a"), ground((*ONE, (6,))))
        self.keeps(self.yard, [("a", "ground")] + pairs("b", ALL), 9)

    def test_cut_keeps_the_ground_swaps(self):
        self.yard.cut("a", 1)
        self.keeps(self.yard, [("a", "ground")] + pairs("b", ALL), 8)
        self.assertEqual(self.yard.ground("a"), ground(((1,), (3,))))
        self.assertEqual(self.yard.ground("a"), [(3, -1)])
        self.assertEqual(self.yard.made(), 8)
        self.yard.cut("a", 1)
        self.keeps(self.yard, [("a", "ground")] + pairs("b", ALL), 8)
        self.assertEqual(self.yard.ground("a"), [])
        self.assertEqual(self.yard.made(), 8)

    def test_cut_where_no_ground_swaps_were_kept(self):
        yard = Yard()
        yard.lay("a", ONE)
        yard.moves("a")
        yard.betterings("a")
        yard.cut("a", 1)
        self.keeps(yard, [], 2)
        self.assertEqual(yard.ground("a"), [(3, -1)])
        self.keeps(yard, [("a", "ground")], 3)

    def test_cut_of_many(self):
        for lot in FEW + some_lots(112, 20, kinds=(3, 4, 5), hold=4):
            for kind in range(len(lot) if len(lot) > 1 else 0):
                yard = Yard()
                yard.lay("a", lot)
                yard.ground("a")
                yard.cut("a", kind)
                self.assertEqual(yard.ground("a"), ground(lot[:kind] + lot[kind + 1:]), (lot, kind))
                self.assertEqual(yard.made(), 1)

    def test_turn_keeps_nothing(self):
        self.yard.turn("a", (2, 1, 0))
        self.keeps(self.yard, pairs("b", ALL), 8)
        self.assertEqual(self.yard.ground("a"), ground(ONE[::-1]))
        # Also where the order is as it was.
        self.yard.turn("b", (0, 1, 2))
        self.keeps(self.yard, [("a", "ground")], 9)
        self.yard.ground("b")
        self.yard.undo()
        self.keeps(self.yard, [("a", "ground"), ("b", "ground")], 10)

    def test_steps_of_several_and_of_none(self):
        self.yard.all_of([])
        self.keeps(self.yard, pairs("a", ALL) + pairs("b", ALL), 8)
        self.yard.undo()
        self.yard.redo()
        self.keeps(self.yard, pairs("a", ALL) + pairs("b", ALL), 8)
        self.yard.all_of([("cut", "a", 0), ("call", "a", "c"), ("turn", "b", (0, 1, 2))])
        self.keeps(self.yard, [("c", "ground")], 8)
        self.assertEqual(self.yard.ground("c"), ground(ONE[1:]))
        self.yard.all_of([("call", "c", "a"), ("put", "a", (5,)), ("cut", "a", 2)])
        self.keeps(self.yard, [], 8)

    def test_refused_steps_keep_what_was_kept(self):
        kept = pairs("a", ALL) + pairs("b", ALL)
        self.refused(BadOrder, {}, self.yard.turn, "a", (0,))
        self.refused(NoKind, {"kind": 3}, self.yard.cut, "a", 3)
        self.refused(Taken, {"name": "b"}, self.yard.call, "a", "b")
        self.refused(BadDeed, {}, self.yard.do, ("drop",))
        self.keeps(self.yard, kept, 8)
        for begun in [("drop", "a"), ("call", "a", "c"), ("put", "a", (1,)), ("cut", "a", 0), ("turn", "a", (1, 0, 2))]:
            self.refused(BadDeed, {}, self.yard.all_of, [begun, ("turn", "b", (0, 1, 2)), ("what",)])
            self.keeps(self.yard, kept, 8)
            ask_all(self.yard, "a")
            self.assertEqual(self.yard.ground("a"), ground(ONE))
            self.assertEqual(self.yard.made(), 8)


class TakingBackTest(KeptCase):
    def test_what_has_an_equal_lot_is_kept(self):
        for deed in [("put", "a", (1,)), ("cut", "a", 0), ("turn", "a", (1, 0, 2)), ("drop", "a"), ("call", "a", "c")]:
            yard = self.yard.twin()
            yard.do(deed)
            yard.undo()
            self.keeps(yard, pairs("b", ALL), 8)
            yard.ground("a")
            yard.redo()
            self.keeps(yard, pairs("b", ALL), 9)

    def test_what_was_asked_in_between(self):
        self.yard.put("a", (6,))
        self.yard.ground("a")
        self.yard.moves("a")
        self.yard.undo()
        self.keeps(self.yard, pairs("b", ALL), 10)
        self.yard.ground("a")
        self.yard.redo()
        self.keeps(self.yard, pairs("b", ALL), 11)
        self.assertEqual(self.yard.ground("a"), ground((*ONE, (6,))))
        self.assertEqual(self.yard.made(), 12)

    def test_laying_taken_back_and_done_again(self):
        self.yard.undo()
        self.keeps(self.yard, pairs("a", ALL), 8)
        self.yard.redo()
        self.keeps(self.yard, pairs("a", ALL), 8)
        self.yard.undo()
        self.yard.undo()
        self.keeps(self.yard, [], 8)
        self.yard.redo()
        self.keeps(self.yard, [], 8)
        ask_all(self.yard, "a")
        self.keeps(self.yard, pairs("a", ALL), 12)

    def test_a_cut_taken_back(self):
        self.yard.cut("a", 1)
        self.yard.undo()
        self.assertEqual(self.yard.ground("a"), ground(ONE))
        self.keeps(self.yard, [("a", "ground")] + pairs("b", ALL), 9)
        # Done again, it lets go: the lot behind it isn't an equal one.
        self.yard.redo()
        self.keeps(self.yard, pairs("b", ALL), 9)

    def test_nothing_to_take_back_keeps_all(self):
        self.yard.undo()
        self.yard.undo()
        with self.assertRaises(IndexError):
            self.yard.undo()
        self.yard.redo()
        self.yard.ground("a")
        self.yard.redo()
        with self.assertRaises(IndexError):
            self.yard.redo()
        self.keeps(self.yard, [("a", "ground")], 9)


class TwinTest(KeptCase):
    def test_a_twin_has_what_is_kept_and_counted(self):
        twin = self.yard.twin()
        self.keeps(twin, pairs("a", ALL) + pairs("b", ALL), 8)
        ask_all(twin, "a")
        self.assertEqual(twin.made(), 8)
        twin.betterings("a", wish=(0, 0, 0))
        self.assertEqual(twin.made(), 9)
        self.keeps(self.yard, pairs("a", ALL) + pairs("b", ALL), 8)
        self.yard.betterings("b", wish=(0, 0, 0))
        self.yard.drop("a")
        self.assertNotIn(("b", "betterings 0,0,0"), twin.kept())
        self.assertIn(("a", "betterings 0,0,0"), twin.kept())
        further = twin.twin()
        further.cut("a", 0)
        self.assertEqual(further.ground("a"), ground(ONE[1:]))
        self.assertEqual(twin.ground("a"), ground(ONE))
        self.assertEqual((self.yard.made(), twin.made(), further.made()), (9, 9, 9))

    def test_a_read_yard_keeps_nothing(self):
        self.keeps(read_page(str(self.yard)), [], 0)
        self.assertEqual(read_page(str(self.yard)), self.yard)


if __name__ == "__main__":
    unittest.main()
