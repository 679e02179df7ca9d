"""What the document says of small lots and bills, done the long way: by lists of all counts, loads and rows."""

import itertools
import random

FEW = [
    ((1,),), ((4,),), ((2,), (3,)), ((3,), (3,)), ((6,), (4,), (1,)), ((2,), (2,), (3,)), ((1,), (2,), (3,), (4,)),
    ((1, 1),), ((2, 0), (0, 3), (1, 1)), ((1, 0), (0, 1), (1, 1), (2, 1)), ((1, 2), (2, 1), (1, 1)),
    ((1, 1), (1, 1), (2, 2)), ((3, 0), (2, 0), (0, 2)), ((1, 0, 1), (0, 1, 1), (1, 1, 0), (1, 1, 1)),
    ((1, 0, 0), (0, 2, 0), (1, 1, 1)), ((0, 0, 2), (0, 0, 3)), ((2, 1, 0), (0, 1, 2), (1, 1, 1)),
]


def some_lots(seed, many, *, kinds=(1, 2, 3, 4, 5), goods=(1, 2, 3), hold=6):
    """So many lots, the same ones each time."""
    draw = random.Random(seed)
    lots = []
    while len(lots) < many:
        width = draw.choice(goods)
        lot = tuple(tuple(draw.choice((0, *range(hold + 1))) for _ in range(width)) for _ in range(draw.choice(kinds)))
        if all(map(any, lot)):
            lots.append(lot)
    return lots


def plus(one, other, times=1):
    return tuple(mine + times * theirs for mine, theirs in zip(one, other))


def turned(row):
    return tuple(-number for number in row)


def goods_in(lot, counts):
    return tuple(sum(count * hold[good] for count, hold in zip(counts, lot)) for good in range(len(lot[0])))


def all_bills(bill):
    """All bills with no amount above this one's."""
    return list(itertools.product(*(range(amount + 1) for amount in bill)))


def all_counts(lot, bill):
    """All counts, none of which comes to more than a bill, rising."""
    most = [min(amount // part for amount, part in zip(bill, hold) if part) for hold in lot]
    told = itertools.product(*(range(count + 1) for count in most))
    return [counts for counts in told if all(a <= b for a, b in zip(goods_in(lot, counts), bill))]


def all_fillings(lot, bill):
    return [counts for counts in all_counts(lot, bill) if goods_in(lot, counts) == bill]


def all_loads(lot, bill):
    return [(counts, plus(bill, goods_in(lot, counts), -1)) for counts in all_counts(lot, bill)]


def load_rank(load, wish):
    """Of two loads of a bill, the better one has the lesser rank."""
    counts, loose = load
    numbers = wish or (1,) * len(counts)
    return sum(loose), sum(a * b for a, b in zip(counts, numbers)), loose, counts


def plain_best(lot, bill, wish):
    return min(all_loads(lot, bill), key=lambda load: load_rank(load, wish))


def plain_lumps(lot, bill):
    """The lumps by a plain walk from filling to filling."""
    left = all_fillings(lot, bill)
    told = []
    while left:
        lump, front = [], [left.pop(0)]
        while front:
            at = front.pop()
            lump.append(at)
            near = [to for to in left if any(a and b for a, b in zip(at, to))]
            left = [to for to in left if to not in near]
            front += near
        told.append(sorted(lump))
    return sorted(told)


def is_plain_swap(lot, row):
    return any(row) and not any(goods_in(lot, row))


def plain_conforms(one, other):
    return all(a == 0 or (a * b > 0 and abs(a) <= abs(b)) for a, b in zip(one, other))


def conforming(row):
    """All rows that conform to a row."""
    return itertools.product(*(range(min(number, 0), max(number, 0) + 1) for number in row))


def is_plain_ground(lot, row):
    """Whether a row is a swap to which no other one conforms."""
    return is_plain_swap(lot, row) and not any(
        is_plain_swap(lot, other) and other != row for other in conforming(row)
    )


def is_told_way(row):
    return next((number for number in row if number), 0) > 0


def small_swaps(lot, most):
    """All swaps with no number greater in size than the most, rising."""
    rows = itertools.product(range(-most, most + 1), repeat=len(lot))
    return [row for row in rows if is_plain_swap(lot, row)]
