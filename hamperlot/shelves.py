"""Shelves of lots by their names, what is kept with each, and the deeds that change them."""

from hamperlot.betterings import betterings
from hamperlot.errors import BadDeed, BadName, NoLot, Taken, TooMany
from hamperlot.lots import beside, in_order, look_lot, with_kind, without
from hamperlot.moves import moves
from hamperlot.swaps import ground

LETTERS = "abcdefghijklmnopqrstuvwxyz"
MOST_LETTERS = 8
GROUND = "ground"
MOVES = "moves"


class Shelf:
    """Lots by their names; with each name, by texts, what is kept of its lot."""

    def __init__(self, limit):
        self.limit = limit
        self.stock = {}
        self.store = {}


def lay_down(shelf, name, lot):
    """Give a name a lot, of which nothing is kept."""
    shelf.stock[name] = lot
    shelf.store[name] = {}


def filled_anew(shelf, stock):
    """A shelf of other lots, with what is kept of each name that has an equal lot on this one."""
    fresh = Shelf(shelf.limit)
    for name in stock:
        lay_down(fresh, name, stock[name])
        if shelf.stock.get(name) == stock[name]:
            fresh.store[name] = dict(shelf.store[name])
    return fresh


def made_for(lot, text, wish):
    """What is kept of a lot by a text."""
    if text == GROUND:
        return ground(lot)
    if text == MOVES:
        return moves(lot)
    return betterings(lot, wish=wish)


def is_name(name):
    """Whether a text is a name."""
    return 1 <= len(name) <= MOST_LETTERS and all([letter in LETTERS for letter in name])


def lot_named(shelf, name):
    """The lot of a name."""
    if name not in shelf.stock:
        raise NoLot(name)
    return shelf.stock[name]


def look_free(shelf, name):
    """Refuse what is no name, or one that is taken."""
    if not is_name(name):
        raise BadName()
    if name in shelf.stock:
        raise Taken(name)


def look_new(shelf, name):
    """Refuse a name for a lot more."""
    look_free(shelf, name)
    if len(shelf.stock) >= shelf.limit:
        raise TooMany(shelf.limit)


def do_lay(shelf, name, lot):
    """A new lot."""
    look_new(shelf, name)
    look_lot(lot)
    lay_down(shelf, name, lot)


def do_drop(shelf, name):
    """A lot less."""
    lot_named(shelf, name)
    del shelf.stock[name]
    del shelf.store[name]


def do_call(shelf, name, fresh):
    """Another name for a lot, which takes along what is kept."""
    lot = lot_named(shelf, name)
    look_free(shelf, fresh)
    held = shelf.store[name]
    do_drop(shelf, name)
    lay_down(shelf, fresh, lot)
    shelf.store[fresh] = held


def do_put(shelf, name, hold):
    """A kind more, behind all."""
    lay_down(shelf, name, with_kind(lot_named(shelf, name), hold))


def do_cut(shelf, name, kind):
    """A kind less; the ground swaps that don't have it are those of the rest."""
    fresh = without(lot_named(shelf, name), kind)
    swaps = shelf.store[name].get(GROUND)
    lay_down(shelf, name, fresh)
    if swaps is not None:
        shelf.store[name][GROUND] = [swap[:kind] + swap[kind + 1:] for swap in swaps if swap[kind] == 0]


def do_turn(shelf, name, order):
    """The kinds in another order."""
    lay_down(shelf, name, in_order(lot_named(shelf, name), order))


def do_beside(shelf, name, one, other):
    """A new lot of two lots beside one another."""
    look_new(shelf, name)
    left = lot_named(shelf, one)
    right = lot_named(shelf, other)
    lay_down(shelf, name, beside(left, right))


DEEDS = {
    "lay": do_lay,
    "drop": do_drop,
    "call": do_call,
    "put": do_put,
    "cut": do_cut,
    "turn": do_turn,
    "beside": do_beside,
}
# How many things stand behind each word.
THINGS = {"lay": 2, "drop": 1, "call": 2, "put": 2, "cut": 2, "turn": 2, "beside": 3}


def carry_out(shelf, deed):
    """Do a deed to a shelf."""
    if len(deed) == 0 or deed[0] not in DEEDS:
        raise BadDeed()
    things = deed[1:]
    if len(things) != THINGS[deed[0]]:
        raise BadDeed()
    action = DEEDS[deed[0]]
    action(shelf, *things)
