"""Loads, which of them are better, and the betterings that lead to the best one.

Inside, a load is one row: its counts, then its loose goods.
"""

from hamperlot.errors import BadWish
from hamperlot.lots import GREAT, goods_of, look_bill, look_counts, look_lot, packed
from hamperlot.rows import above, covers, is_nought, less, marks, opposite, unit

MOST_WISH = 99


def look_wish(lot, wish):
    """Refuse what is no wish for the lot."""
    if wish == ():
        return
    if len(wish) != len(lot) or not all([-MOST_WISH <= number <= MOST_WISH for number in wish]):
        raise BadWish()


def numbers_of(lot, wish):
    """The number of each kind by a wish."""
    return (1,) * len(lot) if wish == () else wish


class Step:
    """A change of loads: what is above 0 is taken out of a load, what is below 0 is put in, and it is better then."""

    def __init__(self, change):
        self.change = change
        self.asks = [(place, number) for place, number in enumerate(change) if number > 0]
        self.takes = marks(above(change))
        self.gives = marks(above(opposite(change)))


def columns_of(lot):
    """The goods of each single thing of a load."""
    goods = goods_of(lot)
    return lot + tuple([unit(good, goods) for good in range(goods)])


def costs_of(lot, wish):
    """Rows by which loads are weighed, one after the other: the lesser sum is the better one."""
    kinds = len(lot)
    goods = goods_of(lot)
    all_loose = (0,) * kinds + (1,) * goods
    by_wish = numbers_of(lot, wish) + (0,) * goods
    places = list(range(kinds, kinds + goods)) + list(range(kinds))
    return [all_loose, by_wish] + [unit(place, kinds + goods) for place in places]


def worse_first(change, costs):
    """The change or its opposite: the one that takes out the worse load."""
    sums = [sum([cost * number for cost, number in zip(row, change)]) for row in costs]
    first = [total for total in sums if total != 0][0]
    return change if first > 0 else opposite(change)


def asks_fit(row, asks):
    """Whether a load has all that is asked for."""
    for place, number in asks:
        if row[place] < number:
            return False
    return True


def first_fitting(row, steps):
    """The first step that fits a load, or None."""
    for step in steps:
        if asks_fit(row, step.asks):
            return step
    return None


def settled(load, steps):
    """What a load comes to by steps until none fits."""
    row = load
    step = first_fitting(row, steps)
    while step is not None:
        times = min([row[place] // number for place, number in step.asks])
        row = less(row, step.change, times)
        step = first_fitting(row, steps)
    return row


def seeds_of(lot, bound):
    """By goods in all, the kinds within a bound: a hamper of each, no change to it, and that of unpacking it."""
    many = len(lot) + goods_of(lot)
    waiting = {}
    for kind, hold in enumerate(lot):
        if covers(bound, hold):
            hamper = unit(kind, many)
            unpacking = less(hamper, (0,) * len(lot) + hold)
            waiting.setdefault(sum(hold), []).append((hamper, (0,) * many, unpacking))
    return waiting


def leaves_some(least, one, other):
    """Whether two changes together take out less than a load."""
    return any([number > max(mine, theirs, 0) for number, mine, theirs in zip(least, one, other)])


def is_spanned(least, one, other, steps):
    """Whether a step stands between two changes: it fits the least load that they fit, and with each of them a
    lesser one, which is settled already."""
    for step in steps:
        if asks_fit(least, step.asks) and leaves_some(least, one, step.change):
            if leaves_some(least, other, step.change):
                return True
    return False


def take_in(step, steps, waiting, columns, bound):
    """Take a step in; the least load that it and another one fit waits to be settled, by its goods in all.

    Where the two take out nothing in common, either can be done behind the other, and both ways meet; where they put
    in something in common, the load without that is a lesser one, and tells all.
    """
    for other in steps:
        if step.takes & other.takes != 0 and step.gives & other.gives == 0:
            least = tuple([max(mine, theirs, 0) for mine, theirs in zip(step.change, other.change)])
            bill = tuple([packed(columns, least, good) for good in range(len(bound))])
            if covers(bound, bill):
                waiting.setdefault(sum(bill), []).append((least, step.change, other.change))
    steps.append(step)


def steps_within(lot, wish, bound):
    """Steps that lead to the best load of each bill with no amount above the bound's.

    Each takes out a needy load. Loads are settled by their goods in all, rising, so none turns out needless later.
    """
    columns = columns_of(lot)
    costs = costs_of(lot, wish)
    waiting = seeds_of(lot, bound)
    steps = []
    while waiting:
        pairs = waiting.pop(min(waiting))
        for least, one, other in pairs:
            if not is_spanned(least, one, other, steps):
                change = less(settled(less(least, one), steps), settled(less(least, other), steps))
                if not is_nought(change):
                    take_in(Step(worse_first(change, costs)), steps, waiting, columns, bound)
    return steps


def as_load(row, kinds):
    """A load as it is told."""
    return row[:kinds], row[kinds:]


def betterings(lot, *, wish=(), loose=True):
    """All betterings, rising; where loose is False, those alone whose needy load has nothing loose."""
    look_lot(lot)
    look_wish(lot, wish)
    kinds = len(lot)
    # No needy load comes anywhere near to GREAT.
    steps = steps_within(lot, wish, (GREAT,) * goods_of(lot))
    told = []
    for step in steps:
        needy = as_load(above(step.change), kinds)
        if loose or is_nought(needy[1]):
            told.append((needy, as_load(settled(above(opposite(step.change)), steps), kinds)))
    return sorted(told)


def best_load(lot, bill, *, wish=()):
    """The best load of a bill."""
    look_bill(lot, bill)
    look_wish(lot, wish)
    steps = steps_within(lot, wish, bill)
    row = (0,) * (len(lot) + len(bill))
    # Twice the best load of half a bill is near to the best one, so that great bills take few steps, too.
    for shift in reversed(range(max(bill).bit_length())):
        fresh = (0,) * len(lot) + tuple([(amount >> shift) & 1 for amount in bill])
        row = settled(tuple([2 * number + more for number, more in zip(row, fresh)]), steps)
    return as_load(row, len(lot))


def best_filling(lot, bill, *, wish=()):
    """The best filling of a bill, or None where it can't be filled."""
    counts, rest = best_load(lot, bill, wish=wish)
    return counts if is_nought(rest) else None


def worth_of(lot, counts, *, wish=()):
    """The worth of counts by a wish."""
    look_counts(lot, counts)
    look_wish(lot, wish)
    return sum([count * number for count, number in zip(counts, numbers_of(lot, wish))])


def fits(load, needy):
    """Whether a load has all that another one has."""
    return covers(load[0], needy[0]) and covers(load[1], needy[1])
