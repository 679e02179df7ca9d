"""A picker, which fills a bill step by step."""

from hamperlot.betterings import best_load, betterings, fits, look_wish
from hamperlot.errors import NoKind, NothingLeft, Short
from hamperlot.lots import look_bill
from hamperlot.rows import less
from hamperlot.swaps import look_change
from hamperlot.texts import row_text


def look_enough(row):
    """Refuse a row of which a number is less than 0."""
    for place, number in enumerate(row):
        if number < 0:
            raise Short(place)


class Picker:
    """A load of a bill, on its way to the best one.

    The bill, the counts and the loose goods are held together as one stand, so that a deed is taken back by going to
    the stand ahead of it.
    """

    def __init__(self, lot, bill, *, wish=()):
        look_bill(lot, bill)
        look_wish(lot, wish)
        self.own_lot = lot
        self.own_wish = wish
        self.stand = (bill, (0,) * len(lot), bill)
        self.past = []
        self.future = []
        # Made when they are first asked for, as they may take long.
        self.own_betterings = None

    def lot(self):
        """The lot."""
        return self.own_lot

    def bill(self):
        """The bill, with what it grew."""
        return self.stand[0]

    def wish(self):
        """The wish, as it was handed in."""
        return self.own_wish

    def counts(self):
        """How many hampers there are of each kind."""
        return self.stand[1]

    def loose(self):
        """How much of each good is loose."""
        return self.stand[2]

    def go_to(self, bill, counts, loose):
        """Do a deed: it is refused where it falls short, and ends what could be done again."""
        look_enough(counts)
        look_enough(loose)
        self.past.append(self.stand)
        self.future = []
        self.stand = (bill, counts, loose)

    def put_in(self, kind, times):
        """Put loose goods into so many hampers of a kind more; below 0 into so many less."""
        if not 0 <= kind < len(self.own_lot):
            raise NoKind(kind)
        counts = self.counts()
        fresh = counts[:kind] + (counts[kind] + times,) + counts[kind + 1:]
        self.go_to(self.bill(), fresh, less(self.loose(), self.own_lot[kind], times))

    def pack(self, kind, *, times=1):
        """Put loose goods into so many hampers of a kind."""
        self.put_in(kind, times)

    def unpack(self, kind, *, times=1):
        """Take the goods out of so many hampers of a kind."""
        self.put_in(kind, -times)

    def swap(self, change, *, times=1):
        """Do a swap so many times."""
        look_change(self.own_lot, change)
        self.go_to(self.bill(), less(self.counts(), change, -times), self.loose())

    def known_betterings(self):
        """The betterings of the lot by the wish."""
        if self.own_betterings is None:
            self.own_betterings = betterings(self.own_lot, wish=self.own_wish)
        return self.own_betterings

    def better(self):
        """Do the first bettering that fits, and tell it; None where none fits."""
        load = (self.counts(), self.loose())
        for needy, best in self.known_betterings():
            if fits(load, needy):
                counts = less(less(load[0], needy[0]), best[0], -1)
                self.go_to(self.bill(), counts, less(less(load[1], needy[1]), best[1], -1))
                return needy, best
        return None

    def best(self):
        """The best load of the bill."""
        return best_load(self.own_lot, self.bill(), wish=self.own_wish)

    def finish(self):
        """Go to the best load."""
        counts, rest = self.best()
        self.go_to(self.bill(), counts, rest)

    def grow(self, goods):
        """Let the bill grow by goods, which come loose."""
        look_bill(self.own_lot, goods)
        grown = less(self.bill(), goods, -1)
        look_bill(self.own_lot, grown)
        self.go_to(grown, self.counts(), less(self.loose(), goods, -1))

    def turn_back(self, pile, other):
        """Go to the last stand of a pile; the one that was left goes onto the other pile."""
        if len(pile) == 0:
            raise NothingLeft()
        other.append(self.stand)
        self.stand = pile.pop()

    def undo(self):
        """Take the last deed back."""
        self.turn_back(self.past, self.future)

    def redo(self):
        """Do the deed again that was taken back last."""
        self.turn_back(self.future, self.past)

    def is_best(self):
        """Whether the load is the best one of the bill."""
        return self.best() == (self.counts(), self.loose())

    def left(self):
        """How many deeds can be taken back, and how many done again."""
        return len(self.past), len(self.future)

    def twin(self):
        """A picker alike that goes its own way."""
        fresh = Picker(self.own_lot, self.bill(), wish=self.own_wish)
        fresh.stand = self.stand
        fresh.past = list(self.past)
        fresh.future = list(self.future)
        fresh.own_betterings = self.own_betterings
        return fresh

    def hampers(self):
        """How many hampers there are, in all."""
        return sum(self.counts())

    def __len__(self):
        return len([count for count in self.counts() if count > 0])

    def __eq__(self, other):
        return (
            isinstance(other, Picker) and self.own_lot == other.own_lot and self.own_wish == other.own_wish
            and self.stand == other.stand
        )

    def __str__(self):
        return str(row_text(self.counts()))

    def __repr__(self):
        return f"Picker({len(self.own_lot)} kinds, {sum(self.loose())} loose)"
