"""Swaps: changes of counts by which no good's amount changes."""

from hamperlot.errors import BadSwap
from hamperlot.lots import goods_of, look_lot, packed
from hamperlot.rows import is_nought, less, marks, opposite, unit


def first_changed(lot, change):
    """The first good whose amount changes, -1 for another count of numbers than kinds, None where there is none."""
    if len(change) != len(lot):
        return -1
    for good in range(goods_of(lot)):
        if packed(lot, change, good) != 0:
            return good
    return None


def is_swap(lot, change):
    """Whether a row is a swap of the lot."""
    look_lot(lot)
    return first_changed(lot, change) is None and not is_nought(change)


def look_change(lot, change):
    """Refuse what is neither a swap of the lot nor all noughts."""
    look_lot(lot)
    wrong = first_changed(lot, change)
    if wrong is not None:
        raise BadSwap(wrong)


def conforms(one, other):
    """Whether each number of the one is 0, or has the sign of the other's and is no greater in size."""
    return all([0 <= mine <= theirs or theirs <= mine <= 0 for mine, theirs in zip(one, other)])


def sign_of(number):
    """1 above 0, -1 below it, else 0."""
    if number == 0:
        return 0
    return 1 if number > 0 else -1


def first_place(row):
    """The first place where a row isn't 0."""
    return min([place for place, number in enumerate(row) if number != 0])


def told_way(row):
    """The row or its opposite: the one whose first number that isn't 0 is above 0."""
    return row if row[first_place(row)] > 0 else opposite(row)


def with_one_at(rows, place):
    """Rows with the same whole sums, of which at most one isn't 0 at a place: those that aren't, and all others."""
    others = [row for row in rows if row[place] == 0]
    at_it = [row for row in rows if row[place] != 0]
    while len(at_it) > 1:
        at_it = sorted(at_it, key=lambda row: abs(row[place]))
        least = at_it[0]
        left = [less(row, least, row[place] // least[place]) for row in at_it[1:]]
        others += [row for row in left if row[place] == 0]
        at_it = [least] + [row for row in left if row[place] != 0]
    return at_it, others


def spanning(lot):
    """Swaps, as few as can be, of which each swap is a whole sum; each begins behind the one ahead of it."""
    goods = goods_of(lot)
    # Each row tells goods and, behind them, the counts that come to them; where the goods are gone, a swap is left.
    rows = [hold + unit(kind, len(lot)) for kind, hold in enumerate(lot)]
    for good in range(goods):
        rows = with_one_at(rows, good)[1]
    swaps = []
    for place in range(goods, goods + len(lot)):
        at_it, rows = with_one_at(rows, place)
        swaps += [row[goods:] for row in at_it]
    return swaps


def sign_rows(many):
    """All rows of so many signs, each or its opposite."""
    rows = [()]
    for place in range(many):
        rows = [row + (sign,) for row in rows for sign in (1, -1) if place > 0 or sign == 1]
    return rows


def has_signs(row, signs):
    """Whether no number of a row has another sign than told, as far as signs are told."""
    return all([sign * number >= 0 for sign, number in zip(signs, row)])


def let_in(row, place, sides, waiting):
    """Let a row in on its side of a place, and wait to be added to each of the other side."""
    size = sum([abs(number) for number in row[:place]])
    sign = sign_of(row[place])
    if sign != 0:
        for further, other in sides[-sign]:
            waiting.setdefault(size + further, []).append((row, other))
    sides[sign].append((size, row))


def is_no_greater(row, other, many):
    """Whether no one of the first numbers is greater in size than the other row's."""
    for place in range(many):
        if abs(row[place]) > abs(other[place]):
            return False
    return True


def is_new(row, place, sides):
    """Whether a row isn't all 0 up to a place, and none that was let in conforms to it there."""
    if is_nought(row[:place + 1]):
        return False
    sign = sign_of(row[place])
    for side in (0, sign):
        for size, other in sides[side]:
            if is_no_greater(other, row, place + 1):
                return False
    return True


def trimmed(row, place, fresh):
    """The row less a fresh one, where there is one, as often as makes it least in size at a place, of its sign."""
    if fresh is None:
        return row
    return less(row, fresh, sign_of(row[place]) * (abs(row[place]) // fresh[place]))


def completed(members, place, fresh):
    """Rows, of the same signs ahead of a place, with all that are needed for conforming sums up to it.

    Sums are made in the order of their size ahead of the place: so what one conforms to needs no further look.
    """
    sides = {-1: [], 0: [], 1: []}
    waiting = {}
    for row in members:
        let_in(row, place, sides, waiting)
    while waiting:
        pairs = waiting.pop(min(waiting))
        for one, other in pairs:
            row = trimmed(less(one, other, -1), place, fresh)
            if is_new(row, place, sides):
                let_in(row, place, sides, waiting)
    return [row for side in (-1, 0, 1) for size, row in sides[side]]


def lifted(rows, place, fresh):
    """The ground swaps as seen up to a place, out of those as seen ahead of it and one that begins there, if any."""
    if fresh is not None:
        rows = [less(row, fresh, row[place] // fresh[place]) for row in rows] + [fresh]
    both = rows + [opposite(row) for row in rows]
    told = {}
    for signs in sign_rows(place):
        members = [row for row in both if has_signs(row, signs)]
        for row in completed(members, place, fresh):
            # Rows that look alike so far are one; how they go on doesn't matter yet.
            way = told_way(row)
            told[way[:place + 1]] = way
    return list(told.values())


def ground(lot):
    """The told ground swaps, rising."""
    begun = {first_place(row): told_way(row) for row in spanning(lot)}
    rows = []
    for place in range(len(lot)):
        rows = lifted(rows, place, begun.get(place))
    return sorted(rows)


def rings(lot):
    """The told rings, rising."""
    swaps = ground(lot)
    kinds = sorted({marks(swap) for swap in swaps})
    return [
        swap for swap in swaps
        if not any([some & marks(swap) == some and some != marks(swap) for some in kinds])
    ]


def times_within(swap, row):
    """How many times a swap, taken so often, conforms to a row."""
    if not conforms(swap, row):
        return 0
    return min([whole // part for part, whole in zip(swap, row) if part != 0])


def parts(lot, change):
    """Ground swaps, and how many times each, that conform to a change and come to it."""
    look_change(lot, change)
    told = []
    left = change
    # What conforms to a rest conforms to all ahead of it, so none comes back that was taken as often as can be.
    for swap in ground(lot):
        for way in (swap, opposite(swap)):
            times = times_within(way, left)
            if times > 0:
                told.append((times, way))
                left = less(left, way, times)
    return told
