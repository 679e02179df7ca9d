"""Rows of numbers and lots, written as texts and read from them."""

from hamperlot.errors import BadText
from hamperlot.lots import look_lot

FIGURES = "0123456789"
MOST_FIGURES = 30


def row_text(row):
    """A row as written."""
    return ",".join([str(number) for number in row])


def is_number(word):
    """Whether a word is a number just as it is written."""
    figures = word.removeprefix("-")
    if not 1 <= len(figures) <= MOST_FIGURES:
        return False
    if not all([figure in FIGURES for figure in figures]):
        return False
    # A nought stands first in nought alone, and that has no sign.
    return figures[0] != "0" or word == "0"


def read_row(text):
    """The row that is written so."""
    words = text.split(",")
    if not all([is_number(word) for word in words]):
        raise BadText(0)
    return tuple([int(word) for word in words])


def lot_text(lot):
    """A lot as written."""
    look_lot(lot)
    return " ".join([row_text(hold) for hold in lot])


def read_lot(text):
    """The lot that is written so."""
    lot = tuple([read_row(word) for word in text.split(" ")])
    look_lot(lot)
    return lot
