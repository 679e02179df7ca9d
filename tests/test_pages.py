"""Pages, written and read: hamperlot.pages."""

import random
import unittest

from hamperlot.errors import BadLot, BadText, NothingLeft, TooMany
from hamperlot.pages import page, read_page
from hamperlot.yard import Yard
from plain import some_lots
from refusing import RefusingCase

ONE = ((2,), (3,))
TWO = ((2, 0), (0, 3), (1, 1))
EIGHT = "".join(f"{letter} 1\n" for letter in "abcdefgh")

# Texts that are no pages, with the first line that is none.
NO_PAGES = [
    ("\n", 0), ("\n\n", 0), ("a 1\n\n", 1), ("\na 1\n", 0), ("a 1\n\nb 1\n", 1), (" ", 0), (" \n", 0), ("a", 0),
    ("a\n", 0), ("a \n", 0), ("a 1", 0), ("a 1\nb 1", 1), ("a 1\nb", 1), ("a 1\nb 1\nc", 2), ("a 1\n ", 1),
    (" a 1\n", 0),
    # Names that are none.
    ("A 1\n", 0), ("ninechars 1\n", 0), (" 1\n", 0), ("1\n", 0), ("a1 1\n", 0), ("a 1\nB 1\n", 1), ("a-b 1\n", 0),
    ("a\t1\n", 0), ("1 1\n", 0), ("2,0 0,3 1,1\n", 0),
    # Names that aren't behind the one ahead of them.
    ("a 1\na 1\n", 1), ("b 1\na 1\n", 1), ("a 1\nc 1\nb 1\n", 2), ("ab 1\na 1\n", 1), ("a 1\nb 1\nb 2\nA 1\n", 2),
    # Lots that are none, as texts or as lots.
    ("a 1,\n", 0), ("a ,1\n", 0), ("a 1  2\n", 0), ("a  1\n", 0), ("a 1 \n", 0), ("a 01\n", 0), ("a +1\n", 0),
    ("a -0\n", 0), ("a 1, 2\n", 0), ("a x\n", 0), ("a 0\n", 0), ("a 7\n", 0), ("a -1\n", 0), ("a 1 1 1 1 1 1\n", 0),
    ("a 1,1,1,1\n", 0), ("a 1,2 3\n", 0), ("a 1 0\n", 0), ("a 1\nb 0,0\nc 1\n", 1), ("a 1\nb 1\nc 1 2 x\n", 2),
    ("a 1 2;3\n", 0),
    ("a 1111111111111111111111111111111111\n", 0), ("a 1\r\n", 0), ("a 1\rb 1\n", 0), ("a 1.0\n", 0),
    # The ninth, whatever it is otherwise.
    (EIGHT + "i 1\n", 8), (EIGHT + "i 1", 8), (EIGHT + "\n", 8), (EIGHT + "i 1\nj 1\n", 8), (EIGHT + "a x\n", 8),
    (EIGHT + " ", 8),
    # The first one is told.
    ("a x\nb y\n", 0), ("a 1\nb y\nc", 1), ("a 1\nb 1\nc 0", 2), (EIGHT.replace("c 1", "c 0") + "i 1\n", 2),
    (EIGHT.replace("h 1", "g 1") + "i 1\n", 7), ("a 1\nb 1\na 1\n\n\n", 2),
]


class PagesTest(RefusingCase):
    def test_written(self):
        yard = Yard()
        self.assertEqual(page(yard), "")
        yard.lay("wide", TWO)
        self.assertEqual(page(yard), "wide 2,0 0,3 1,1\n")
        yard.lay("a", ONE)
        yard.lay("ab", ((6, 5, 4),))
        self.assertEqual(page(yard), "a 2 3\nab 6,5,4\nwide 2,0 0,3 1,1\n")
        self.assertEqual(page(yard), str(yard))
        yard.undo()
        self.assertEqual(page(yard), "a 2 3\nwide 2,0 0,3 1,1\n")

    def test_read(self):
        yard = read_page("a 2 3\nwide 2,0 0,3 1,1\n")
        self.assertIsInstance(yard, Yard)
        self.assertEqual(yard.names(), ["a", "wide"])
        self.assertEqual(yard.lot("a"), ONE)
        self.assertEqual(yard.lot("wide"), TWO)

    def test_the_text_of_no_signs(self):
        yard = read_page("")
        self.assertEqual(len(yard), 0)
        self.assertEqual(yard, Yard())

    def test_there_and_back(self):
        draw = random.Random(121)
        lots = some_lots(122, 60)
        for _ in range(60):
            yard = Yard(limit=draw.randint(1, 8))
            for _ in range(draw.randint(0, 8)):
                name = "".join(draw.choice("abyz") for _ in range(draw.randint(1, 8)))
                try:
                    yard.lay(name, draw.choice(lots))
                except ValueError:
                    continue
            back = read_page(page(yard))
            self.assertTrue(back == yard)
            self.assertEqual(page(back), page(yard))

    def test_what_a_read_yard_has(self):
        yard = Yard(limit=2)
        yard.lay("a", ONE)
        yard.lay("b", TWO)
        yard.ground("a")
        yard.drop("b")
        yard.undo()
        back = read_page(page(yard))
        self.assertEqual(back.steps(), [])
        self.assertEqual(back.kept(), [])
        self.assertEqual(back.made(), 0)
        self.refused(NothingLeft, {}, back.undo)
        self.refused(NothingLeft, {}, back.redo)
        # It goes on as any yard does.
        back.lay("c", ONE)
        self.assertEqual(back.steps(), [[("lay", "c", ONE)]])
        self.assertEqual(back.undo(), [("lay", "c", ONE)])
        self.assertEqual(back.names(), ["a", "b"])
        back.ground("a")
        self.assertEqual((back.kept(), back.made()), ([("a", "ground")], 1))
        self.refused(NothingLeft, {}, back.undo)

    def test_its_limit(self):
        yard = read_page(EIGHT)
        self.assertEqual(len(yard), 8)
        self.refused(TooMany, {"most": 8}, yard.lay, "i", ONE)
        yard = read_page("a 1\n")
        for letter in "bcdefgh":
            yard.lay(letter, ONE)
        self.refused(TooMany, {"most": 8}, yard.lay, "i", ONE)

    def test_no_pages(self):
        for text, at in NO_PAGES:
            with self.subTest(text):
                self.refused(BadText, {"at": at, "word": "bad text"}, read_page, text)

    def test_one_sign_less_or_other(self):
        """Whatever is read is written so again; all else is refused at a line that it has."""
        text = "a 2 3\nab 6,5,4\nwide 2,0 0,3 1,1\n"
        draw = random.Random(123)
        others = [text[:at] + text[at + 1:] for at in range(len(text))]
        others += [text[:at] + sign + text[at + draw.randint(0, 1):] for at in range(len(text)) for sign in "a0, -\n7"]
        refused = 0
        for other in others:
            try:
                self.assertEqual(page(read_page(other)), other)
            except BadText as refusal:
                refused += 1
                self.assertIn(refusal.at, range(other.count("\n") + 1))
                ahead = "".join(line + "\n" for line in other.split("\n")[:refusal.at])
                self.assertEqual(page(read_page(ahead)), ahead)
        self.assertGreater(refused, 100)
        self.assertLess(refused, len(others) - 20)

    def test_a_bad_lot_is_a_bad_text(self):
        with self.assertRaises(BadText) as caught:
            read_page("a 7\n")
        self.assertNotIsInstance(caught.exception, BadLot)

    def test_each_read_yard_is_its_own(self):
        one, other = read_page(EIGHT), read_page(EIGHT)
        one.drop("a")
        self.assertEqual(len(other), 8)


if __name__ == "__main__":
    unittest.main()
