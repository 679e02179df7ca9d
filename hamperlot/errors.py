"""What the program refuses with.

Each class sets its word and its fields by itself, so that none leans on another one.
"""


class LotError(ValueError):
    """Something that was handed in isn't as it must be."""


class BadLot(LotError):
    """No lot; the first kind that isn't as told, or -1."""

    def __init__(self, kind):
        self.word = "bad lot"
        self.kind = kind


class BadBill(LotError):
    """No bill; the first good whose amount isn't so, or -1."""

    def __init__(self, good):
        self.word = "bad bill"
        self.good = good


class BadWish(LotError):
    """No wish."""

    def __init__(self):
        self.word = "bad wish"


class BadCounts(LotError):
    """No counts; the first kind whose count isn't so, or -1."""

    def __init__(self, kind):
        self.word = "bad counts"
        self.kind = kind


class BadSwap(LotError):
    """No swap; the first good whose amount changes, or -1."""

    def __init__(self, good):
        self.word = "bad swap"
        self.good = good


class BadOrder(LotError):
    """No order of all kinds, each once."""

    def __init__(self):
        self.word = "bad order"


class BadText(LotError):
    """A text that is never written; the line where it goes wrong."""

    def __init__(self, at):
        self.word = "bad text"
        self.at = at


class BadName(LotError):
    """No name."""

    def __init__(self):
        self.word = "bad name"


class Taken(LotError):
    """A name that is in use already."""

    def __init__(self, name):
        self.word = "taken"
        self.name = name


class BadDeed(LotError):
    """No deed."""

    def __init__(self):
        self.word = "bad deed"


class TooMany(LotError):
    """More than the most that is let."""

    def __init__(self, most):
        self.word = "too many"
        self.most = most


class OtherGoods(LotError):
    """A lot of another count of goods than asked for."""

    def __init__(self):
        self.word = "other goods"


class Unlike(LotError):
    """Two bills that aren't one; the first good whose amounts differ."""

    def __init__(self, good):
        self.word = "unlike"
        self.good = good


class Short(LotError):
    """Too little of a kind or a good; the first that falls short."""

    def __init__(self, place):
        self.word = "short"
        self.place = place


class Filled(LotError):
    """A bill that can be filled."""

    def __init__(self):
        self.word = "filled"


class Missing(LookupError):
    """Something that was asked for isn't there."""


class NoLot(Missing):
    """No lot has this name."""

    def __init__(self, name):
        self.word = "no lot"
        self.name = name


class NoKind(Missing):
    """The lot has no such kind."""

    def __init__(self, kind):
        self.word = "no kind"
        self.kind = kind


class NoGood(Missing):
    """The lot has no such good, or it was named already."""

    def __init__(self, good):
        self.word = "no good"
        self.good = good


class NoPlace(Missing):
    """There is no such place."""

    def __init__(self, place):
        self.word = "no place"
        self.place = place


class NothingLeft(IndexError):
    """Nothing is left to take back or to do again."""

    def __init__(self):
        self.word = "nothing left"
