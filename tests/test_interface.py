"""The interface: each function and class stands in its own file, with the arguments told."""

import importlib
import inspect
import unittest

SIGNATURES = {
    "hamperlot.lots": {
        "look_lot": "(lot)",
        "goods_of": "(lot)",
        "look_bill": "(lot, bill)",
        "bill_of": "(lot, counts, *, loose=())",
        "with_kind": "(lot, hold, *, at=-1)",
        "without": "(lot, kind)",
        "in_order": "(lot, order)",
        "seen": "(lot, goods)",
        "beside": "(one, other)",
    },
    "hamperlot.texts": {
        "row_text": "(row)",
        "read_row": "(text)",
        "lot_text": "(lot)",
        "read_lot": "(text)",
    },
}
CLASSES = {
    "hamperlot.errors": (
        "LotError BadLot BadBill BadWish BadCounts BadSwap BadOrder BadText BadName Taken BadDeed TooMany OtherGoods"
        " Unlike Short Filled Missing NoLot NoKind NoGood NoPlace NothingLeft"
    ).split(),
}


class InterfaceTest(unittest.TestCase):
    def test_functions(self):
        for file, functions in SIGNATURES.items():
            module = importlib.import_module(file)
            for name, told in functions.items():
                with self.subTest(file, name=name):
                    function = getattr(module, name)
                    self.assertTrue(inspect.isfunction(function))
                    self.assertEqual(function.__module__, file)
                    self.assertEqual(str(inspect.signature(function)), told)

    def test_classes(self):
        for file, names in CLASSES.items():
            module = importlib.import_module(file)
            for name in names:
                with self.subTest(file, name=name):
                    self.assertTrue(inspect.isclass(getattr(module, name)))
                    self.assertEqual(getattr(module, name).__module__, file)


if __name__ == "__main__":
    unittest.main()
