"""Pages: yards as texts."""

from hamperlot.errors import BadLot, BadText
from hamperlot.shelves import is_name
from hamperlot.texts import read_lot
from hamperlot.yard import MOST_LOTS, yard_of


def page(yard):
    """The page of a yard."""
    return str(yard)


def lot_in_line(written, at):
    """The lot that is written in the line of this number."""
    try:
        return read_lot(written)
    except (BadText, BadLot):
        raise BadText(at) from None


def read_page(text):
    """The yard that a page tells."""
    lines = text.split("\n")
    stock = {}
    ahead = ""
    for at, line in enumerate(lines[:-1]):
        name, blank, written = line.partition(" ")
        if not is_name(name) or name <= ahead or at >= MOST_LOTS:
            raise BadText(at)
        stock[name] = lot_in_line(written, at)
        ahead = name
    # Behind the last line feed there is nothing; what stands there is a line without one.
    if lines[-1] != "":
        raise BadText(len(lines) - 1)
    return yard_of(stock)
