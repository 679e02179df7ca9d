"""Rows and lots, written and read: hamperlot.texts."""

import itertools
import re
import unittest

from hamperlot.errors import BadLot, BadText
from hamperlot.texts import lot_text, read_lot, read_row, row_text
from refusing import RefusingCase

ROWS = [
    ("0", (0,)), ("7", (7,)), ("-1", (-1,)), ("2,0,-1", (2, 0, -1)), ("10,100,-20", (10, 100, -20)),
    ("0,0,0,0,0,0,0,0", (0,) * 8), ("9" * 30, (10 ** 30 - 1,)), ("-" + "9" * 30, (1 - 10 ** 30,)),
    ("1" + "0" * 29 + ",-1", (10 ** 29, -1)),
]
LOTS = [
    ("2,0 0,3 1,1", ((2, 0), (0, 3), (1, 1))), ("1", ((1,),)), ("3 5", ((3,), (5,))), ("6,6,6", ((6, 6, 6),)),
    ("1 2 3 4 5", ((1,), (2,), (3,), (4,), (5,))), ("1,1 1,1", ((1, 1), (1, 1))),
]
NO_NUMBERS = [
    "", " ", "-", "+", "+1", "--1", "-+1", "1-", "1-1", "00", "01", "007", "-0", "-01", "-00", "- 1", " 1", "1 ",
    "\n", "1\n", "\t1", "1_0", "1e3", "1.0", ".", "0x1", "a", "one", "~", "(1)", "1;2", "1" * 31, "-" + "1" * 31,
    "9" * 40, "0" * 31, "1" + "0" * 30, "9" * 5000, "\u0663", "\u00b2",
]


class RowTextTest(unittest.TestCase):
    def test_written(self):
        for text, row in ROWS:
            with self.subTest(text):
                self.assertEqual(row_text(row), text)

    def test_no_numbers(self):
        self.assertEqual(row_text(()), "")

    def test_more_than_thirty_figures_are_written(self):
        self.assertEqual(row_text((10 ** 30, -10 ** 31)), "1" + "0" * 30 + ",-1" + "0" * 31)


class ReadRowTest(RefusingCase):
    def test_read(self):
        for text, row in ROWS:
            with self.subTest(text):
                self.assertEqual(read_row(text), row)
                self.assertIs(type(read_row(text)), tuple)

    def test_there_and_back(self):
        numbers = (-10 ** 29, -100, -10, -1, 0, 1, 9, 10, 101, 10 ** 30 - 1)
        for many in (1, 2, 3):
            for row in itertools.product(numbers, repeat=many):
                self.assertEqual(read_row(row_text(row)), row)

    def test_refused(self):
        for word in NO_NUMBERS:
            with self.subTest(word):
                self.refused(BadText, {"at": 0}, read_row, word)
                self.refused(BadText, {"at": 0}, read_row, "1," + word)
                self.refused(BadText, {"at": 0}, read_row, word + ",1")

    def test_commas_and_blanks_too_many(self):
        for text in [",", ",,", "1,", ",1", "1,,2", "1, 2", "1 ,2", " 1,2", "1,2 ", "1 2", "1,2\n", "1,2,"]:
            with self.subTest(text):
                self.refused(BadText, {"at": 0}, read_row, text)

    def test_read_is_just_what_is_written(self):
        shape = re.compile(r"(0|-?[1-9][0-9]{0,29})(,(0|-?[1-9][0-9]{0,29}))*")
        for many in range(6):
            for signs in itertools.product("01-, +", repeat=many):
                text = "".join(signs)
                if shape.fullmatch(text):
                    self.assertEqual(row_text(read_row(text)), text)
                else:
                    self.refused(BadText, {"at": 0}, read_row, text)


class LotTextTest(RefusingCase):
    def test_written(self):
        for text, lot in LOTS:
            with self.subTest(text):
                self.assertEqual(lot_text(lot), text)

    def test_no_lots(self):
        for lot, kind in [
            ((), -1), (((),), -1), (((1,),) * 6, -1), (((1, 1), (1,)), 1), (((1,), (0,)), 1), (((7,),), 0),
            (((-1,),), 0),
        ]:
            with self.subTest(lot):
                self.refused(BadLot, {"kind": kind}, lot_text, lot)


class ReadLotTest(RefusingCase):
    def test_read(self):
        for text, lot in LOTS:
            with self.subTest(text):
                self.assertEqual(read_lot(text), lot)
                self.assertEqual({type(read_lot(text)), *map(type, read_lot(text))}, {tuple})

    def test_there_and_back(self):
        holds = [hold for hold in itertools.product((0, 1, 6), repeat=2) if any(hold)]
        for many in (1, 2, 3):
            for lot in itertools.product(holds, repeat=many):
                self.assertEqual(read_lot(lot_text(lot)), lot)

    def test_bad_texts(self):
        for text in [
            "", " ", "  ", "1  2", " 1", "1 ", "1,2 1, 2", "1,2 ,1", "1,2, 1,2", "1\n", "1\n2", "1;2", "01", "1 00",
            "-0 1", "+1", "1 " + "1" * 31, "1,1 a", "1\t2",
        ]:
            with self.subTest(text):
                self.refused(BadText, {"at": 0}, read_lot, text)

    def test_bad_lots(self):
        for text, kind in [
            ("1 1 1 1 1 1", -1), ("1,1,1,1", -1), ("0", 0), ("1 0", 1), ("7", 0), ("1 -1", 1), ("1,1 1", 1),
            ("1,1 2,2 1,1,1", 2), ("0,0 7", 0), ("9" * 30, 0),
        ]:
            with self.subTest(text):
                self.refused(BadLot, {"kind": kind}, read_lot, text)

    def test_bad_text_goes_first(self):
        for text in ["0 x", "7 1,", "1 1 1 1 1 1 1,", "1,1,1,1 01", "-1 -0", "0 " + "9" * 31]:
            with self.subTest(text):
                self.refused(BadText, {"at": 0}, read_lot, text)


class HandedInTest(unittest.TestCase):
    def test_by_name(self):
        self.assertEqual(row_text(row=(1, 2)), "1,2")
        self.assertEqual(read_row(text="1,2"), (1, 2))
        self.assertEqual(lot_text(lot=((1,), (2,))), "1 2")
        self.assertEqual(read_lot(text="1 2"), ((1,), (2,)))

    def test_nothing_is_changed(self):
        lot = ((1, 2), (3, 4))
        row_text(lot[0])
        lot_text(lot)
        self.assertEqual(lot, ((1, 2), (3, 4)))


if __name__ == "__main__":
    unittest.main()
