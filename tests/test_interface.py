"""The interface: each function and class stands in its own file, with the arguments told."""

import importlib
import inspect
import unittest

SIGNATURES = {
    "hamperlot.lots": {
        "look_lot": "(lot)",
        "goods_of": "(lot)",
        "look_bill": "(lot, bill)",
        "bill_of": "(lot, counts, *, loose=())",
        "with_kind": "(lot, hold, *, at=-1)",
        "without": "(lot, kind)",
        "in_order": "(lot, order)",
        "seen": "(lot, goods)",
        "beside": "(one, other)",
    },
    "hamperlot.texts": {
        "row_text": "(row)",
        "read_row": "(text)",
        "lot_text": "(lot)",
        "read_lot": "(text)",
    },
    "hamperlot.counting": {
        "how_many": "(lot, bill)",
        "fillings": "(lot, bill, *, most=400)",
        "filling_at": "(lot, bill, place)",
        "place_of": "(lot, bill, counts)",
        "counts_of_bills": "(lot, bill)",
        "how_many_of_one": "(lot, amount)",
    },
    "hamperlot.swaps": {
        "is_swap": "(lot, change)",
        "look_change": "(lot, change)",
        "conforms": "(one, other)",
        "ground": "(lot)",
        "rings": "(lot)",
        "parts": "(lot, change)",
        "spanning": "(lot)",
    },
    "hamperlot.betterings": {
        "betterings": "(lot, *, wish=(), loose=True)",
        "best_load": "(lot, bill, *, wish=())",
        "best_filling": "(lot, bill, *, wish=())",
        "worth_of": "(lot, counts, *, wish=())",
        "fits": "(load, needy)",
    },
    "hamperlot.moves": {
        "lumps": "(lot, bill)",
        "moves": "(lot)",
        "needed": "(lot)",
        "way": "(lot, one, other)",
    },
    "hamperlot.barring": {
        "prices": "(lot, bill)",
        "rests": "(lot, bill)",
        "prices_hold": "(lot, bill, paper)",
        "rests_hold": "(lot, bill, paper)",
        "why_not": "(lot, bill)",
        "measure": "(lot)",
        "gaps": "(lot)",
        "unlike": "(one, other)",
    },
    "hamperlot.pages": {
        "page": "(yard)",
        "read_page": "(text)",
    },
}
METHODS = {
    ("hamperlot.picker", "Picker"): {
        "__init__": "(self, lot, bill, *, wish=())",
        "lot": "(self)",
        "bill": "(self)",
        "wish": "(self)",
        "counts": "(self)",
        "loose": "(self)",
        "pack": "(self, kind, *, times=1)",
        "unpack": "(self, kind, *, times=1)",
        "swap": "(self, change, *, times=1)",
        "better": "(self)",
        "finish": "(self)",
        "grow": "(self, goods)",
        "undo": "(self)",
        "redo": "(self)",
        "is_best": "(self)",
        "left": "(self)",
        "twin": "(self)",
        "hampers": "(self)",
        "__len__": "(self)",
        "__eq__": "(self, other)",
        "__str__": "(self)",
        "__repr__": "(self)",
    },
    ("hamperlot.yard", "Yard"): {
        "__init__": "(self, *, limit=8)",
        "lay": "(self, name, lot)",
        "drop": "(self, name)",
        "call": "(self, name, fresh)",
        "put": "(self, name, hold)",
        "cut": "(self, name, kind)",
        "turn": "(self, name, order)",
        "beside": "(self, name, one, other)",
        "do": "(self, deed)",
        "all_of": "(self, deeds)",
        "undo": "(self)",
        "redo": "(self)",
        "names": "(self)",
        "lot": "(self, name)",
        "steps": "(self)",
        "ground": "(self, name)",
        "moves": "(self, name)",
        "betterings": "(self, name, *, wish=())",
        "kept": "(self)",
        "made": "(self)",
        "twin": "(self)",
        "__len__": "(self)",
        "__eq__": "(self, other)",
        "__str__": "(self)",
        "__repr__": "(self)",
    },
}
NUMBERS = {
    "hamperlot.lots": {"MOST_KINDS": 5, "MOST_GOODS": 3, "MOST_HOLD": 6, "GREAT": 10 ** 30},
    "hamperlot.counting": {"MOST_BOX": 4000, "MOST_LISTED": 400},
    "hamperlot.yard": {"MOST_LOTS": 8},
}
CLASSES = {
    "hamperlot.errors": (
        "LotError BadLot BadBill BadWish BadCounts BadSwap BadOrder BadText BadName Taken BadDeed TooMany OtherGoods"
        " Unlike Short Filled Missing NoLot NoKind NoGood NoPlace NothingLeft"
    ).split(),
    "hamperlot.picker": ["Picker"],
    "hamperlot.yard": ["Yard"],
}


class InterfaceTest(unittest.TestCase):
    def test_functions(self):
        for file, functions in SIGNATURES.items():
            module = importlib.import_module(file)
            for name, told in functions.items():
                with self.subTest(file, name=name):
                    function = getattr(module, name)
                    self.assertTrue(inspect.isfunction(function))
                    self.assertEqual(function.__module__, file)
                    self.assertEqual(str(inspect.signature(function)), told)

    def test_classes(self):
        for file, names in CLASSES.items():
            module = importlib.import_module(file)
            for name in names:
                with self.subTest(file, name=name):
                    self.assertTrue(inspect.isclass(getattr(module, name)))
                    self.assertEqual(getattr(module, name).__module__, file)

    def test_methods_stand_in_the_class_itself(self):
        for (file, name), methods in METHODS.items():
            own = vars(getattr(importlib.import_module(file), name))
            for method, told in methods.items():
                with self.subTest(file, name=name, method=method):
                    self.assertTrue(inspect.isfunction(own[method]))
                    self.assertEqual(str(inspect.signature(own[method])), told)

    def test_numbers(self):
        for file, numbers in NUMBERS.items():
            module = importlib.import_module(file)
            for name, told in numbers.items():
                self.assertEqual(getattr(module, name), told, name)


if __name__ == "__main__":
    unittest.main()
