"""What holds over the whole program: arguments by place and by name, bad lots first, every refusal, nothing changed."""

import copy
import unittest

from hamperlot import barring, betterings, counting, errors, lots, moves, pages, swaps, texts
from hamperlot.picker import Picker
from hamperlot.yard import Yard
from refusing import NO_LOTS, RefusingCase

ONE = ((2,), (3,))
TWO = ((2, 0), (0, 3), (1, 1))
SWAP = (3, 2, -6)
LOAD = ((3, 2, 1), (4, 0))


def some_yard():
    yard = Yard(limit=5)
    yard.all_of([("lay", "a", ONE), ("lay", "b", TWO)])
    yard.ground("b")
    return yard


def some_picker():
    picker = Picker(TWO, (12, 12))
    picker.pack(2, times=8)
    return picker


# Each function with its arguments by their names, in their order, those with a default apart.
FUNCTIONS = [
    (lots.look_lot, {"lot": TWO}, {}),
    (lots.goods_of, {"lot": TWO}, {}),
    (lots.look_bill, {"lot": TWO, "bill": (5, 5)}, {}),
    (lots.bill_of, {"lot": TWO, "counts": (1, 2, 3)}, {"loose": ()}),
    (lots.with_kind, {"lot": TWO, "hold": (1, 2)}, {"at": -1}),
    (lots.without, {"lot": TWO, "kind": 1}, {}),
    (lots.in_order, {"lot": TWO, "order": (2, 0, 1)}, {}),
    (lots.seen, {"lot": TWO, "goods": (1, 0)}, {}),
    (lots.beside, {"one": ONE, "other": TWO}, {}),
    (texts.row_text, {"row": (2, 0, -1)}, {}),
    (texts.read_row, {"text": "2,0,-1"}, {}),
    (texts.lot_text, {"lot": TWO}, {}),
    (texts.read_lot, {"text": "2,0 0,3 1,1"}, {}),
    (counting.how_many, {"lot": TWO, "bill": (6, 6)}, {}),
    (counting.fillings, {"lot": TWO, "bill": (6, 6)}, {"most": 400}),
    (counting.filling_at, {"lot": TWO, "bill": (6, 6), "place": 1}, {}),
    (counting.place_of, {"lot": TWO, "bill": (6, 6), "counts": (3, 2, 0)}, {}),
    (counting.counts_of_bills, {"lot": TWO, "bill": (6, 6)}, {}),
    (counting.how_many_of_one, {"lot": ONE, "amount": 60}, {}),
    (swaps.is_swap, {"lot": TWO, "change": SWAP}, {}),
    (swaps.look_change, {"lot": TWO, "change": SWAP}, {}),
    (swaps.conforms, {"one": (1, 0), "other": (2, 0)}, {}),
    (swaps.ground, {"lot": TWO}, {}),
    (swaps.rings, {"lot": TWO}, {}),
    (swaps.parts, {"lot": TWO, "change": (6, 4, -12)}, {}),
    (swaps.spanning, {"lot": TWO}, {}),
    (betterings.betterings, {"lot": TWO}, {"wish": (), "loose": True}),
    (betterings.best_load, {"lot": TWO, "bill": (7, 7)}, {"wish": ()}),
    (betterings.best_filling, {"lot": TWO, "bill": (6, 6)}, {"wish": ()}),
    (betterings.worth_of, {"lot": TWO, "counts": (1, 2, 3)}, {"wish": ()}),
    (betterings.fits, {"load": LOAD, "needy": ((1, 1, 1), (1, 0))}, {}),
    (moves.lumps, {"lot": TWO, "bill": (6, 6)}, {}),
    (moves.moves, {"lot": TWO}, {}),
    (moves.needed, {"lot": TWO}, {}),
    (moves.way, {"lot": TWO, "one": (3, 2, 0), "other": (0, 0, 6)}, {}),
    (barring.prices, {"lot": ((1, 2), (2, 1)), "bill": (1, 5)}, {}),
    (barring.rests, {"lot": ((2, 0), (0, 3)), "bill": (1, 3)}, {}),
    (barring.prices_hold, {"lot": ((1, 2), (2, 1)), "bill": (1, 5), "paper": (2, -1)}, {}),
    (barring.rests_hold, {"lot": ((2, 0), (0, 3)), "bill": (1, 3), "paper": ((1, 0), 2)}, {}),
    (barring.why_not, {"lot": TWO, "bill": (1, 0)}, {}),
    (barring.measure, {"lot": ((4,), (6,))}, {}),
    (barring.gaps, {"lot": ((5,), (6,))}, {}),
    (barring.unlike, {"one": ((4,),), "other": ((2,),)}, {}),
    (pages.page, {"yard": some_yard()}, {}),
    (pages.read_page, {"text": "a 2 3\n"}, {}),
    (Picker, {"lot": TWO, "bill": (7, 7)}, {"wish": ()}),
    (Yard, {}, {"limit": 8}),
]

# Each method, of an object that was made anew.
METHODS = [
    (some_picker, "pack", {"kind": 0}, {"times": 1}),
    (some_picker, "unpack", {"kind": 2}, {"times": 1}),
    (some_picker, "swap", {"change": SWAP}, {"times": 1}),
    (some_picker, "grow", {"goods": (1, 2)}, {}),
    (some_yard, "lay", {"name": "c", "lot": TWO}, {}),
    (some_yard, "drop", {"name": "b"}, {}),
    (some_yard, "call", {"name": "b", "fresh": "c"}, {}),
    (some_yard, "put", {"name": "b", "hold": (1, 2)}, {}),
    (some_yard, "cut", {"name": "b", "kind": 1}, {}),
    (some_yard, "turn", {"name": "b", "order": (2, 0, 1)}, {}),
    (some_yard, "beside", {"name": "c", "one": "a", "other": "b"}, {}),
    (some_yard, "do", {"deed": ("drop", "a")}, {}),
    (some_yard, "all_of", {"deeds": [("drop", "a"), ("drop", "b")]}, {}),
    (some_yard, "lot", {"name": "b"}, {}),
    (some_yard, "ground", {"name": "b"}, {}),
    (some_yard, "moves", {"name": "b"}, {}),
    (some_yard, "betterings", {"name": "b"}, {"wish": ()}),
] + [
    (some_picker, word, {}, {}) for word in
    "lot bill wish counts loose better finish undo is_best left twin hampers __len__ __str__ __repr__".split()
] + [
    (some_yard, word, {}, {}) for word in "undo names steps kept made twin __len__ __str__ __repr__".split()
]

# Calls that are handed a lot, with all else bad, too.
WITH_A_LOT = [
    lots.look_lot, lots.goods_of, lambda lot: lots.look_bill(lot, (-1,)),
    lambda lot: lots.bill_of(lot, (-1,), loose=(-1,)),
    lambda lot: lots.with_kind(lot, (), at=9), lambda lot: lots.without(lot, 9), lambda lot: lots.in_order(lot, (9,)),
    lambda lot: lots.seen(lot, (9,)), lambda lot: lots.beside(lot, ()), lambda lot: lots.beside(ONE, lot),
    texts.lot_text,
    lambda lot: counting.how_many(lot, (-1,)), lambda lot: counting.fillings(lot, (-1,), most=0),
    lambda lot: counting.filling_at(lot, (-1,), -1), lambda lot: counting.place_of(lot, (-1,), ()),
    lambda lot: counting.counts_of_bills(lot, (-1,)), lambda lot: counting.how_many_of_one(lot, -1),
    lambda lot: swaps.is_swap(lot, ()), lambda lot: swaps.look_change(lot, ()), swaps.ground, swaps.rings,
    lambda lot: swaps.parts(lot, ()), swaps.spanning, lambda lot: betterings.betterings(lot, wish=(100,), loose=False),
    lambda lot: betterings.best_load(lot, (-1,), wish=(100,)),
    lambda lot: betterings.best_filling(lot, (-1,), wish=(100,)),
    lambda lot: betterings.worth_of(lot, (-1,), wish=(100,)), lambda lot: moves.lumps(lot, (-1,)), moves.moves,
    moves.needed, lambda lot: moves.way(lot, (), (-1,)), lambda lot: barring.prices(lot, (-1,)),
    lambda lot: barring.rests(lot, (-1,)), lambda lot: barring.prices_hold(lot, (-1,), ()),
    lambda lot: barring.rests_hold(lot, (-1,), ((), 0)), lambda lot: barring.why_not(lot, (-1,)), barring.measure,
    barring.gaps, lambda lot: barring.unlike(lot, ()), lambda lot: barring.unlike(TWO, lot),
    lambda lot: Picker(lot, (-1,), wish=(100,)), lambda lot: Yard().lay("a", lot),
]

# One call for each refusal: its class, its word, its base, its fields.
REFUSALS = [
    (lambda: lots.look_lot(((1,), (0,))), "BadLot", "bad lot", errors.LotError, {"kind": 1}),
    (lambda: lots.look_bill(TWO, (0, -1)), "BadBill", "bad bill", errors.LotError, {"good": 1}),
    (lambda: Picker(TWO, (1, 1), wish=(1,)), "BadWish", "bad wish", errors.LotError, {}),
    (lambda: lots.bill_of(TWO, (0, -1, 0)), "BadCounts", "bad counts", errors.LotError, {"kind": 1}),
    (lambda: some_picker().swap((3, 2, -5)), "BadSwap", "bad swap", errors.LotError, {"good": 0}),
    (lambda: some_yard().turn("a", (0, 0)), "BadOrder", "bad order", errors.LotError, {}),
    (lambda: pages.read_page("a 1\nb\n"), "BadText", "bad text", errors.LotError, {"at": 1}),
    (lambda: some_yard().call("a", "B"), "BadName", "bad name", errors.LotError, {}),
    (lambda: some_yard().call("a", "b"), "Taken", "taken", errors.LotError, {"name": "b"}),
    (lambda: some_yard().do(("drop",)), "BadDeed", "bad deed", errors.LotError, {}),
    (lambda: counting.how_many(TWO, (99, 99)), "TooMany", "too many", errors.LotError, {"most": 4000}),
    (lambda: barring.measure(TWO), "OtherGoods", "other goods", errors.LotError, {}),
    (lambda: moves.way(TWO, (0, 0, 1), (0, 0, 2)), "Unlike", "unlike", errors.LotError, {"good": 0}),
    (lambda: some_picker().pack(1, times=2), "Short", "short", errors.LotError, {"place": 1}),
    (lambda: barring.why_not(TWO, (2, 0)), "Filled", "filled", errors.LotError, {}),
    (lambda: some_yard().lot("c"), "NoLot", "no lot", errors.Missing, {"name": "c"}),
    (lambda: some_picker().unpack(3), "NoKind", "no kind", errors.Missing, {"kind": 3}),
    (lambda: lots.seen(TWO, (0, 2)), "NoGood", "no good", errors.Missing, {"good": 2}),
    (lambda: counting.filling_at(TWO, (6, 6), 2), "NoPlace", "no place", errors.Missing, {"place": 2}),
    (lambda: Yard().undo(), "NothingLeft", "nothing left", IndexError, {}),
    (lambda: Picker(TWO, (1, 1)).redo(), "NothingLeft", "nothing left", IndexError, {}),
]
BASES = (errors.LotError, errors.Missing, errors.NothingLeft)


def told_by(thing):
    """What a picker or a yard tells, as plain values; all else as it is."""
    if isinstance(thing, Picker):
        return thing.lot(), thing.bill(), thing.wish(), thing.counts(), thing.loose(), thing.left()
    if isinstance(thing, Yard):
        return str(thing), thing.steps(), thing.kept(), thing.made()
    return thing


class ArgumentsTest(unittest.TestCase):
    def calls(self, function, needed, defaults):
        """By place, by name, by name in another order; defaults left out, and handed in."""
        both = {**needed, **defaults}
        yield lambda: function(*needed.values())
        yield lambda: function(*needed.values(), **defaults)
        yield lambda: function(**needed)
        yield lambda: function(**both)
        yield lambda: function(**dict(reversed(both.items())))
        if len(needed) > 1:
            first, *further = needed
            yield lambda: function(needed[first], **{name: both[name] for name in reversed(further)})

    def test_functions(self):
        for function, needed, defaults in FUNCTIONS:
            told = [told_by(call()) for call in self.calls(function, needed, defaults)]
            for other in told[1:]:
                self.assertEqual(other, told[0], function.__name__)

    def test_what_stands_behind_a_star_goes_by_name_alone(self):
        for function, needed, defaults in FUNCTIONS:
            if defaults:
                with self.assertRaises(TypeError):
                    function(*needed.values(), *defaults.values())
        for make, word, needed, defaults in METHODS:
            if defaults:
                with self.assertRaises(TypeError):
                    getattr(make(), word)(*needed.values(), *defaults.values())

    def test_methods(self):
        for make, word, needed, defaults in METHODS:
            told = []
            things = []

            def function(*places, **names):
                return getattr(things[-1], word)(*places, **names)

            for call in self.calls(function, needed, defaults):
                things.append(make())
                answer = call()
                told.append((told_by(answer), told_by(things[-1])))
            for other in told[1:]:
                self.assertEqual(other, told[0], word)

    def test_redo(self):
        for make in (some_picker, some_yard):
            thing = make()
            told = told_by(thing)
            thing.undo()
            self.assertNotEqual(told_by(thing), told)
            thing.redo()
            self.assertEqual(told_by(thing)[:2], told[:2])

    def test_nothing_handed_in_is_changed(self):
        for function, needed, defaults in FUNCTIONS:
            before = copy.deepcopy([told_by(thing) for thing in needed.values()])
            function(**needed, **defaults)
            self.assertEqual([told_by(thing) for thing in needed.values()], before, function.__name__)
        for make, word, needed, defaults in METHODS:
            before = copy.deepcopy(needed)
            getattr(make(), word)(**needed)
            self.assertEqual(needed, before, word)

    def test_each_list_and_dict_is_a_new_one(self):
        for function, needed, defaults in FUNCTIONS:
            told = function(**needed)
            if isinstance(told, (list, dict)):
                before = copy.deepcopy(told)
                told.clear()
                self.assertEqual(function(**needed), before, function.__name__)
        for make, word, needed, defaults in METHODS:
            thing = make()
            told = getattr(thing, word)(**needed)
            if isinstance(told, list) and word not in ("undo", "redo"):
                before = copy.deepcopy(told)
                self.assertEqual(getattr(thing, word)(**needed), before, word)
                told.clear()
                self.assertEqual(getattr(thing, word)(**needed), before, word)

    def test_asking_changes_nothing(self):
        askings = "lot bill wish counts loose is_best left twin hampers __len__ __str__ __repr__".split()
        picker = some_picker()
        before = told_by(picker)
        for word in askings:
            getattr(picker, word)()
            self.assertEqual(told_by(picker), before, word)
        yard = some_yard()
        before = told_by(yard)
        for word in "names steps kept made twin __len__ __str__ __repr__".split():
            getattr(yard, word)()
            self.assertEqual(told_by(yard), before, word)
        pages.page(yard)
        yard.lot("a")
        yard.ground("b")
        self.assertEqual(told_by(yard), before)
        yard.moves("b")
        self.assertEqual(told_by(yard)[:2], before[:2])


class BadLotsTest(RefusingCase):
    def test_ahead_of_all_else(self):
        for call in WITH_A_LOT:
            for lot, kind in NO_LOTS:
                self.refused(errors.BadLot, {"kind": kind, "word": "bad lot"}, call, lot)

    def test_the_left_one_first(self):
        for function in (lots.beside, barring.unlike):
            self.refused(errors.BadLot, {"kind": 1}, function, ((1,), (0,)), ((7,),))
            self.refused(errors.BadLot, {"kind": 0}, function, ((7,),), ((1,), (0,)))
            self.refused(errors.BadLot, {"kind": 1}, function, TWO, ((1,), (0,)))

    def test_no_function_is_left_out(self):
        handed = [function for function, needed, defaults in FUNCTIONS if set(needed) & {"lot"}]
        twice = [function for function in (lots.beside, barring.unlike) for side in (0, 1)]
        self.assertEqual(len(WITH_A_LOT), len(handed) + len(twice) + 1)


class RefusalsTest(unittest.TestCase):
    def test_each_by_one_call(self):
        for call, name, word, base, fields in REFUSALS:
            with self.subTest(name), self.assertRaises((ValueError, LookupError)) as caught:
                call()
            refusal = caught.exception
            self.assertIs(type(refusal), getattr(errors, name))
            self.assertEqual(vars(refusal), {"word": word, **fields})
            self.assertEqual(type(refusal).__bases__, (base,))
            self.assertEqual([isinstance(refusal, other) for other in BASES].count(True), 1)
            self.assertEqual(isinstance(refusal, ValueError), base == errors.LotError)
            self.assertEqual(isinstance(refusal, LookupError), base != errors.LotError)
            self.assertEqual(isinstance(refusal, IndexError), name == "NothingLeft")

    def test_none_is_left_out(self):
        made = {name for name, thing in vars(errors).items() if isinstance(thing, type)} - {"LotError", "Missing"}
        self.assertEqual({name for _, name, _, _, _ in REFUSALS}, made)


if __name__ == "__main__":
    unittest.main()
