"""Why a bill can't be filled, and what lots fill alike."""

from hamperlot.betterings import best_filling, best_load
from hamperlot.counting import counts_of_bills
from hamperlot.errors import Filled, OtherGoods
from hamperlot.lots import MOST_GOODS, MOST_HOLD, goods_of, look_bill
from hamperlot.rows import is_nought, opposite, unit, weighed
from hamperlot.swaps import with_one_at


def are_prices(lot, bill, paper):
    """Whether a row is as many prices as goods, by which each kind comes to 0 or above and the bill to below 0."""
    if len(paper) != len(bill) or weighed(bill, paper) >= 0:
        return False
    return all([weighed(hold, paper) >= 0 for hold in lot])


def prices_hold(lot, bill, paper):
    """Whether a row is prices that bar a bill."""
    look_bill(lot, bill)
    return are_prices(lot, bill, paper)


def upright(row, other):
    """A row by which two rows of MOST_GOODS numbers come to 0, each; all 0 where they lie on a line."""
    first, second, third = row
    left, middle, right = other
    return second * right - third * middle, third * left - first * right, first * middle - second * left


def price_rows(lot):
    """Rows among which there are prices for each bill that prices bar.

    Where the kinds reach into all directions, at each side of what their shares come to there are two of them. Where
    they lie in a plane or on a line, what stands upright on one of them and on a single good tells all else.
    """
    goods = goods_of(lot)
    wide = [hold + (0,) * (MOST_GOODS - goods) for hold in lot]
    others = wide + [unit(good, MOST_GOODS) for good in range(MOST_GOODS)]
    rows = [upright(row, other)[:goods] for row in wide for other in others]
    return rows + [opposite(row) for row in rows]


def prices(lot, bill):
    """Prices that bar a bill, or None where there are none."""
    look_bill(lot, bill)
    for paper in price_rows(lot):
        if are_prices(lot, bill, paper):
            return paper
    return None


def rests_hold(lot, bill, paper):
    """Whether a row and a by are rests that bar a bill."""
    look_bill(lot, bill)
    row, by = paper
    if len(row) != len(bill) or by < 2 or weighed(bill, row) % by == 0:
        return False
    return all([weighed(hold, row) % by == 0 for hold in lot])


def stairs_of(lot):
    """Rows of which the whole sums are those of the kinds, each with the good at which it begins, rising."""
    rows = list(lot)
    stairs = []
    for good in range(goods_of(lot)):
        at_it, rows = with_one_at(rows, good)
        stairs += [(good, row) for row in at_it]
    return stairs


def row_coming_to(stairs, sums, begun):
    """A row that comes to a told sum with each stair; it is begun where no stair begins."""
    row = list(begun)
    # Each stair is 0 ahead of its good, so its own number can be told once all behind are.
    for stair in reversed(range(len(stairs))):
        good, hold = stairs[stair]
        row[good] = (sums[stair] - weighed(hold, row)) // hold[good]
    return tuple(row)


def whole_of(stairs):
    """The product of the numbers at which stairs begin."""
    whole = 1
    for good, hold in stairs:
        whole *= abs(hold[good])
    return whole


def least_none(number):
    """The least number above 1 that doesn't go into a number other than 0."""
    by = 2
    while number % by == 0:
        by += 1
    return by


def rests_by_parts(stairs, bill):
    """Rests that bar a bill which only parts of stairs come to, or None."""
    # The whole is such that in its multiples all divisions by the numbers at which stairs begin come out even.
    whole = whole_of(stairs)
    many = len(stairs)
    for stair in range(many):
        row = row_coming_to(stairs, [whole * part for part in unit(stair, many)], (0,) * len(bill))
        if weighed(bill, row) % whole != 0:
            return row, whole
    return None


def rests_beside(stairs, bill):
    """Rests that bar a bill which lies beside all that stairs come to, or None."""
    whole = whole_of(stairs)
    begins = [good for good, hold in stairs]
    for good in range(len(bill)):
        if good not in begins:
            row = row_coming_to(stairs, (0,) * len(stairs), [whole * part for part in unit(good, len(bill))])
            told = weighed(bill, row)
            if told != 0:
                return row, least_none(told)
    return None


def rests(lot, bill):
    """Rests that bar a bill, or None where there are none."""
    look_bill(lot, bill)
    stairs = stairs_of(lot)
    paper = rests_by_parts(stairs, bill)
    return rests_beside(stairs, bill) if paper is None else paper


def why_not(lot, bill):
    """What bars a bill: prices, else rests, else a gap, with the best load."""
    paper = prices(lot, bill)
    if paper is not None:
        return "prices", paper
    paper = rests(lot, bill)
    if paper is not None:
        return "rests", paper
    load = best_load(lot, bill)
    if is_nought(load[1]):
        raise Filled()
    return "gap", load


def look_one_good(lot):
    """Refuse a lot of more goods than one."""
    if goods_of(lot) != 1:
        raise OtherGoods()


def measure(lot):
    """The greatest number that goes into all amounts of a lot of one good."""
    look_one_good(lot)
    # Of one good there is one stair, and it is that number.
    good, hold = stairs_of(lot)[0]
    return hold[good]


def gaps(lot):
    """The multiples of the measure that can't be filled, rising."""
    by = measure(lot)
    # Each rest by one amount is met by fewer other hampers than that amount tells: so from here on all is filled.
    most = MOST_HOLD * MOST_HOLD
    filled = counts_of_bills(lot, (most,))
    return [amount for amount in range(0, most, by) if (amount,) not in filled]


def first_barred(lot, bills):
    """The first bill that a lot can't fill, or None."""
    for bill in bills:
        if best_filling(lot, bill) is None:
            return bill
    return None


def unlike(one, other):
    """None where two lots fill the same bills, else a bill that one of them alone fills, and which of them."""
    if goods_of(one) != goods_of(other):
        raise OtherGoods()
    # Where each kind of the one can be filled by the other lot, so can all that they come to.
    bill = first_barred(other, one)
    if bill is not None:
        return bill, 0
    bill = first_barred(one, other)
    if bill is not None:
        return bill, 1
    return None
