"""A yard, which keeps lots by names through many deeds."""

from hamperlot.betterings import look_wish
from hamperlot.errors import NothingLeft
from hamperlot.shelves import GROUND, MOVES, Shelf, carry_out, filled_anew, lay_down, lot_named, made_for
from hamperlot.texts import lot_text, row_text

MOST_LOTS = 8


class Yard:
    """Lots by their names, what is kept of them, and the steps that were done to them.

    Each step is done to a shelf of its own, so that a refused one has changed nothing. Past and future hold each step
    with the lots to go to where it is taken back or done again.
    """

    def __init__(self, *, limit=MOST_LOTS):
        self.shelf = Shelf(limit)
        self.past = []
        self.future = []
        self.tally = 0

    def lay(self, name, lot):
        """A new lot."""
        self.do(("lay", name, lot))

    def drop(self, name):
        """A lot less."""
        self.do(("drop", name))

    def call(self, name, fresh):
        """Another name for a lot."""
        self.do(("call", name, fresh))

    def put(self, name, hold):
        """A kind more, behind all."""
        self.do(("put", name, hold))

    def cut(self, name, kind):
        """A kind less."""
        self.do(("cut", name, kind))

    def turn(self, name, order):
        """The kinds in another order."""
        self.do(("turn", name, order))

    def beside(self, name, one, other):
        """A new lot of two lots beside one another."""
        self.do(("beside", name, one, other))

    def do(self, deed):
        """Do a deed as one step."""
        self.all_of([deed])

    def all_of(self, deeds):
        """Do several deeds as one step: all, or none where one is refused."""
        fresh = filled_anew(self.shelf, self.shelf.stock)
        for deed in deeds:
            carry_out(fresh, deed)
        self.past.append((tuple(deeds), self.shelf.stock))
        self.future = []
        self.shelf = fresh

    def go_over(self, pile, other):
        """Go to the lots of the last step of a pile; it goes onto the other one, with the lots that were left."""
        if len(pile) == 0:
            raise NothingLeft()
        deeds, stock = pile.pop()
        other.append((deeds, self.shelf.stock))
        self.shelf = filled_anew(self.shelf, stock)
        return list(deeds)

    def undo(self):
        """Take the last step back, and tell its deeds."""
        return self.go_over(self.past, self.future)

    def redo(self):
        """Do the step again that was taken back last, and tell its deeds."""
        return self.go_over(self.future, self.past)

    def names(self):
        """All names, rising."""
        return sorted(self.shelf.stock)

    def lot(self, name):
        """The lot of a name."""
        return lot_named(self.shelf, name)

    def steps(self):
        """The steps that stand, each a list of deeds."""
        return [list(deeds) for deeds, stock in self.past]

    def asked_for(self, name, text, wish):
        """What is kept of a lot by a text; it is made where it isn't kept yet."""
        lot = self.lot(name)
        held = self.shelf.store[name]
        if text not in held:
            held[text] = made_for(lot, text, wish)
            self.tally += 1
        return list(held[text])

    def ground(self, name):
        """The told ground swaps of a lot."""
        return self.asked_for(name, GROUND, ())

    def moves(self, name):
        """The told moves of a lot."""
        return self.asked_for(name, MOVES, ())

    def betterings(self, name, *, wish=()):
        """The betterings of a lot by a wish."""
        look_wish(self.lot(name), wish)
        return self.asked_for(name, f"betterings {row_text(wish)}", wish)

    def kept(self):
        """What is kept: pairs of a name and a text, rising."""
        store = self.shelf.store
        return sorted([(name, text) for name in store for text in store[name]])

    def made(self):
        """How many ground swaps, moves and betterings of a lot were made by asking."""
        return self.tally

    def twin(self):
        """A yard alike that goes its own way."""
        fresh = Yard(limit=self.shelf.limit)
        fresh.shelf = filled_anew(self.shelf, self.shelf.stock)
        fresh.past = list(self.past)
        fresh.future = list(self.future)
        fresh.tally = self.tally
        return fresh

    def __len__(self):
        return len(self.shelf.stock)

    def __eq__(self, other):
        return isinstance(other, Yard) and self.shelf.stock == other.shelf.stock

    def __str__(self):
        return "".join([f"{name} {lot_text(self.shelf.stock[name])}\n" for name in self.names()])

    def __repr__(self):
        return f"Yard({len(self.shelf.stock)} lots)"


def yard_of(stock):
    """A yard of lots by their names, of which nothing can be taken back."""
    fresh = Yard()
    for name in stock:
        lay_down(fresh.shelf, name, stock[name])
    return fresh
