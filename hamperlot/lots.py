"""Lots of hampers, the bills that they are asked to fill, and lots made from lots."""

from hamperlot.errors import BadBill, BadCounts, BadLot, BadOrder, NoGood, NoKind, NoPlace

MOST_KINDS = 5
MOST_GOODS = 3
MOST_HOLD = 6
GREAT = 10 ** 30


def is_hold(hold, goods):
    """Whether a kind of a lot of so many goods can hold this."""
    return len(hold) == goods and all([0 <= amount <= MOST_HOLD for amount in hold]) and max(hold) > 0


def look_lot(lot):
    """Refuse what is no lot."""
    if not 1 <= len(lot) <= MOST_KINDS or not 1 <= len(lot[0]) <= MOST_GOODS:
        raise BadLot(-1)
    for kind, hold in enumerate(lot):
        if not is_hold(hold, len(lot[0])):
            raise BadLot(kind)


def goods_of(lot):
    """How many goods a lot has."""
    look_lot(lot)
    return len(lot[0])


def first_wrong(row, many):
    """Where a row isn't so many numbers from 0 to below GREAT: -1 for its length, else a place; None if nowhere."""
    if len(row) != many:
        return -1
    for place, number in enumerate(row):
        if not 0 <= number < GREAT:
            return place
    return None


def look_bill(lot, bill):
    """Refuse what is no bill of the lot."""
    wrong = first_wrong(bill, goods_of(lot))
    if wrong is not None:
        raise BadBill(wrong)


def look_counts(lot, counts):
    """Refuse what isn't a count for each kind of the lot."""
    look_lot(lot)
    wrong = first_wrong(counts, len(lot))
    if wrong is not None:
        raise BadCounts(wrong)


def packed(lot, counts, good):
    """How much of a good so many hampers of each kind hold."""
    return sum([count * hold[good] for count, hold in zip(counts, lot)])


def bill_of(lot, counts, *, loose=()):
    """The bill that a load comes to."""
    look_counts(lot, counts)
    goods = goods_of(lot)
    if loose == ():
        return tuple([packed(lot, counts, good) for good in range(goods)])
    look_bill(lot, loose)
    return tuple([packed(lot, counts, good) + loose[good] for good in range(goods)])


def with_kind(lot, hold, *, at=-1):
    """The lot with a kind more, at a place or behind all."""
    look_lot(lot)
    if not -1 <= at <= len(lot):
        raise NoPlace(at)
    place = len(lot) if at == -1 else at
    fresh = lot[:place] + (hold,) + lot[place:]
    # The new kind may come first and tell another count of goods, so all kinds are looked at anew.
    look_lot(fresh)
    return fresh


def without(lot, kind):
    """The lot with a kind less."""
    look_lot(lot)
    if not 0 <= kind < len(lot):
        raise NoKind(kind)
    fresh = lot[:kind] + lot[kind + 1:]
    look_lot(fresh)
    return fresh


def in_order(lot, order):
    """The lot with its kinds in another order: at place p stands kind order[p]."""
    look_lot(lot)
    if sorted(order) != list(range(len(lot))):
        raise BadOrder()
    return tuple([lot[kind] for kind in order])


def seen(lot, goods):
    """The lot with some of its goods alone, in the order told."""
    many = goods_of(lot)
    for place, good in enumerate(goods):
        if not 0 <= good < many or good in goods[:place]:
            raise NoGood(good)
    fresh = tuple([tuple([hold[good] for good in goods]) for hold in lot])
    look_lot(fresh)
    return fresh


def beside(one, other):
    """Two lots beside one another, the kinds of each holding nothing of the other one's goods."""
    left = goods_of(one)
    right = goods_of(other)
    kinds = [hold + (0,) * right for hold in one] + [(0,) * left + hold for hold in other]
    fresh = tuple(kinds)
    look_lot(fresh)
    return fresh
