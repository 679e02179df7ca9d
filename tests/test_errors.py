"""The refusals: their bases, their words, their fields by place."""

import unittest

from hamperlot import errors

# name, base, word, fields
REFUSALS = [
    ("BadLot", "LotError", "bad lot", ["kind"]),
    ("BadBill", "LotError", "bad bill", ["good"]),
    ("BadWish", "LotError", "bad wish", []),
    ("BadCounts", "LotError", "bad counts", ["kind"]),
    ("BadSwap", "LotError", "bad swap", ["good"]),
    ("BadOrder", "LotError", "bad order", []),
    ("BadText", "LotError", "bad text", ["at"]),
    ("BadName", "LotError", "bad name", []),
    ("Taken", "LotError", "taken", ["name"]),
    ("BadDeed", "LotError", "bad deed", []),
    ("TooMany", "LotError", "too many", ["most"]),
    ("OtherGoods", "LotError", "other goods", []),
    ("Unlike", "LotError", "unlike", ["good"]),
    ("Short", "LotError", "short", ["place"]),
    ("Filled", "LotError", "filled", []),
    ("NoLot", "Missing", "no lot", ["name"]),
    ("NoKind", "Missing", "no kind", ["kind"]),
    ("NoGood", "Missing", "no good", ["good"]),
    ("NoPlace", "Missing", "no place", ["place"]),
]


class BasesTest(unittest.TestCase):
    def test_the_two_bases(self):
        self.assertEqual(errors.LotError.__bases__, (ValueError,))
        self.assertEqual(errors.Missing.__bases__, (LookupError,))

    def test_nothing_left(self):
        self.assertEqual(errors.NothingLeft.__bases__, (IndexError,))
        self.assertEqual(errors.NothingLeft().word, "nothing left")
        self.assertNotIsInstance(errors.NothingLeft(), (errors.LotError, errors.Missing))

    def test_each_stands_straight_under_its_base(self):
        for name, base, _, _ in REFUSALS:
            with self.subTest(name):
                self.assertEqual(getattr(errors, name).__bases__, (getattr(errors, base),))

    def test_none_stands_under_another(self):
        for name, _, _, _ in REFUSALS:
            with self.subTest(name):
                self.assertEqual(getattr(errors, name).__subclasses__(), [])

    def test_no_refusal_is_left_out(self):
        told = {name for name, _, _, _ in REFUSALS} | {"LotError", "Missing", "NothingLeft"}
        made = {name for name, thing in vars(errors).items() if isinstance(thing, type)}
        self.assertEqual(made, told)


class FieldsTest(unittest.TestCase):
    def test_word(self):
        for name, _, word, fields in REFUSALS:
            with self.subTest(name):
                self.assertEqual(getattr(errors, name)(*[3] * len(fields)).word, word)

    def test_fields_by_place(self):
        for name, _, _, fields in REFUSALS:
            for told in (-1, 0, 7, "plums"):
                with self.subTest(name, told=told):
                    made = getattr(errors, name)(*[told] * len(fields))
                    for field in fields:
                        self.assertEqual(getattr(made, field), told)

    def test_no_more_and_no_fewer_fields(self):
        for name, _, _, fields in REFUSALS + [("NothingLeft", "", "", [])]:
            refusal = getattr(errors, name)
            with self.subTest(name):
                self.assertEqual(set(vars(refusal(*[3] * len(fields)))), {"word", *fields})
                with self.assertRaises(TypeError):
                    refusal(*[3] * (len(fields) + 1))
                if fields:
                    with self.assertRaises(TypeError):
                        refusal()

    def test_objects_made_apart_have_nothing_to_do_with_one_another(self):
        one, other = errors.BadLot(1), errors.BadLot(2)
        one.kind = 5
        self.assertEqual(other.kind, 2)

    def test_raised_and_caught_by_the_base(self):
        with self.assertRaises(ValueError):
            raise errors.BadLot(0)
        with self.assertRaises(LookupError):
            raise errors.NoKind(0)
        with self.assertRaises(IndexError):
            raise errors.NothingLeft()


if __name__ == "__main__":
    unittest.main()
