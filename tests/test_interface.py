"""The interface: each function and class stands in its own file, with the arguments told."""

import importlib
import inspect
import unittest

SIGNATURES = {
    "hamperlot.lots": {
        "look_lot": "(lot)",
        "goods_of": "(lot)",
        "look_bill": "(lot, bill)",
        "bill_of": "(lot, counts, *, loose=())",
        "with_kind": "(lot, hold, *, at=-1)",
        "without": "(lot, kind)",
        "in_order": "(lot, order)",
        "seen": "(lot, goods)",
        "beside": "(one, other)",
    },
    "hamperlot.texts": {
        "row_text": "(row)",
        "read_row": "(text)",
        "lot_text": "(lot)",
        "read_lot": "(text)",
    },
    "hamperlot.counting": {
        "how_many": "(lot, bill)",
        "fillings": "(lot, bill, *, most=400)",
        "filling_at": "(lot, bill, place)",
        "place_of": "(lot, bill, counts)",
        "counts_of_bills": "(lot, bill)",
        "how_many_of_one": "(lot, amount)",
    },
    "hamperlot.swaps": {
        "is_swap": "(lot, change)",
        "look_change": "(lot, change)",
        "conforms": "(one, other)",
        "ground": "(lot)",
        "rings": "(lot)",
        "parts": "(lot, change)",
        "spanning": "(lot)",
    },
    "hamperlot.betterings": {
        "betterings": "(lot, *, wish=(), loose=True)",
        "best_load": "(lot, bill, *, wish=())",
        "best_filling": "(lot, bill, *, wish=())",
        "worth_of": "(lot, counts, *, wish=())",
        "fits": "(load, needy)",
    },
    "hamperlot.moves": {
        "lumps": "(lot, bill)",
        "moves": "(lot)",
        "needed": "(lot)",
        "way": "(lot, one, other)",
    },
}
CLASSES = {
    "hamperlot.errors": (
        "LotError BadLot BadBill BadWish BadCounts BadSwap BadOrder BadText BadName Taken BadDeed TooMany OtherGoods"
        " Unlike Short Filled Missing NoLot NoKind NoGood NoPlace NothingLeft"
    ).split(),
}


class InterfaceTest(unittest.TestCase):
    def test_functions(self):
        for file, functions in SIGNATURES.items():
            module = importlib.import_module(file)
            for name, told in functions.items():
                with self.subTest(file, name=name):
                    function = getattr(module, name)
                    self.assertTrue(inspect.isfunction(function))
                    self.assertEqual(function.__module__, file)
                    self.assertEqual(str(inspect.signature(function)), told)

    def test_classes(self):
        for file, names in CLASSES.items():
            module = importlib.import_module(file)
            for name in names:
                with self.subTest(file, name=name):
                    self.assertTrue(inspect.isclass(getattr(module, name)))
                    self.assertEqual(getattr(module, name).__module__, file)


if __name__ == "__main__":
    unittest.main()
