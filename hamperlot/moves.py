"""Lumps of fillings, and the moves that lead from each filling of a bill to each other one."""

from hamperlot.counting import fillings, look_box
from hamperlot.errors import Unlike
from hamperlot.lots import bill_of
from hamperlot.rows import above, covers, less, marks, opposite
from hamperlot.swaps import ground


def joined(groups, kinds):
    """Groups of kinds with one more: those that have a kind of it become one with it."""
    together = kinds
    for group in groups:
        if group & kinds != 0:
            together = together | group
    return [group for group in groups if group & kinds == 0] + [together]


def is_among(row, kinds):
    """Whether a row has no other kinds than these."""
    return marks(row) | kinds == kinds


def lumps(lot, bill):
    """The lumps of a bill: rising lists of fillings, by their first ones."""
    rows = fillings(lot, bill)
    groups = []
    for row in rows:
        groups = joined(groups, marks(row))
    return sorted([[row for row in rows if is_among(row, kinds)] for kinds in groups])


def kind_groups(sides, swaps):
    """The kinds of each lump of a bill, out of the ground swaps, both ways, and their sides that are its fillings.

    Each lump has some of the sides. Two kinds that stand together in any filling stand so in one that a single ground
    swap makes of whatever filling has the one: so of each kind one filling is looked at, until all is one lump.
    """
    groups = []
    for side in sides:
        groups = joined(groups, marks(side))
    waiting = list(sides)
    looked = 0
    while waiting and len(groups) > 1:
        filling = waiting.pop()
        if not is_among(filling, looked):
            looked = looked | marks(filling)
            for swap in swaps:
                if len(groups) > 1 and covers(filling, swap):
                    near = less(filling, swap)
                    groups = joined(groups, marks(near))
                    waiting.append(near)
    return groups


def least_one(filling, swaps):
    """The least filling that a filling comes to by giving back told ground swaps."""
    least = filling
    fitting = [swap for swap in swaps if covers(least, swap)]
    while fitting:
        least = less(least, fitting[0])
        fitting = [swap for swap in swaps if covers(least, swap)]
    return least


def least_ones(groups, sides, swaps):
    """The least filling of each lump of a bill, rising."""
    told = []
    for kinds in groups:
        inside = [side for side in sides if is_among(side, kinds)]
        told.append(least_one(inside[0], [swap for swap in swaps if is_among(swap, kinds)]))
    return sorted(told)


def both_ways(swaps):
    """Swaps and their opposites, those of few hampers first: they fit most."""
    return sorted(swaps + [opposite(swap) for swap in swaps], key=lambda swap: sum([abs(count) for count in swap]))


def split_bills(lot, swaps):
    """Each bill of two lumps and more, rising, with the least filling of each lump, rising.

    Fillings in two lumps have no kind in common, so what leads from lump to lump is a ground swap of that very bill.
    """
    both = both_ways(swaps)
    sides = {}
    for swap in both:
        sides.setdefault(bill_of(lot, above(swap)), []).append(above(swap))
    told = []
    for bill in sorted(sides):
        groups = kind_groups(sides[bill], both)
        if len(groups) > 1:
            told.append((bill, least_ones(groups, sides[bill], swaps)))
    return told


def moves(lot):
    """The told moves, each with its bill."""
    return [(bill, less(least, leasts[0])) for bill, leasts in split_bills(lot, ground(lot)) for least in leasts[1:]]


def is_pair(leasts, swaps):
    """Whether the least fillings of a bill's lumps are two, and no ground swap leads from them to a third filling."""
    both = both_ways(swaps)
    return len(leasts) == 2 and all([len([swap for swap in both if covers(least, swap)]) == 1 for least in leasts])


def needed(lot):
    """The swaps of the needed moves."""
    swaps = ground(lot)
    return [less(leasts[1], leasts[0]) for bill, leasts in split_bills(lot, swaps) if is_pair(leasts, swaps)]


def look_alike(bill, other):
    """Refuse two bills that aren't one."""
    for good, amount in enumerate(bill):
        if amount != other[good]:
            raise Unlike(good)


def way(lot, one, other):
    """Told moves or their opposites that lead from a filling to another one, as few as can be."""
    bill = bill_of(lot, one)
    look_alike(bill, bill_of(lot, other))
    look_box(bill)
    # Asked for its refusal alone.
    fillings(lot, bill)
    told = moves(lot)
    steps = told + [(goods, opposite(swap)) for goods, swap in told]
    paths = {one: []}
    front = [one]
    while other not in paths:
        further = []
        for filling in front:
            for goods, swap in steps:
                fresh = less(filling, swap, -1)
                if min(fresh) >= 0 and fresh not in paths:
                    paths[fresh] = paths[filling] + [(goods, swap)]
                    further.append(fresh)
        front = further
    return paths[other]
