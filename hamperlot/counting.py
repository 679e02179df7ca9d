"""How many fillings a bill has, and which one stands at which place."""

from hamperlot.errors import BadCounts, NoPlace, OtherGoods, TooMany
from hamperlot.lots import goods_of, look_bill, packed
from hamperlot.rows import less

MOST_BOX = 4000
MOST_LISTED = 400
# Each amount from 1 to MOST_HOLD goes into it.
ROUND = 60


def look_box(bill):
    """Refuse a bill of too great a box; its amounts may come to GREAT and more."""
    box = 1
    for amount in bill:
        box *= amount + 1
    if box > MOST_BOX:
        raise TooMany(MOST_BOX)


def look_both(lot, bill):
    """Refuse what is no bill, or a bill of too great a box."""
    look_bill(lot, bill)
    look_box(bill)


def cells_of(bill):
    """All bills with no amount above this one's, rising."""
    cells = [()]
    for amount in bill:
        cells = [cell + (part,) for cell in cells for part in range(amount + 1)]
    return cells


def with_one_more(cells, table, hold):
    """How many fillings each cell has by the kinds of a table and one more, where it has any."""
    fuller = {}
    # The cell less a hamper stands ahead of the cell, so it is counted already.
    for cell in cells:
        many = table.get(cell, 0) + fuller.get(less(cell, hold), 0)
        if many > 0:
            fuller[cell] = many
    return fuller


def tables_of(lot, bill):
    """For each kind, and behind all, how many fillings the cells of a bill have by the kinds from there on."""
    cells = cells_of(bill)
    tables = [{cells[0]: 1}]
    for hold in reversed(lot):
        tables.append(with_one_more(cells, tables[-1], hold))
    return tables[::-1]


def takings(bill, hold):
    """Each count of hampers that can be taken out of a bill, with what is left."""
    told = []
    count = 0
    left = bill
    while min(left) >= 0:
        told.append((count, left))
        count += 1
        left = less(left, hold)
    return told


def how_many(lot, bill):
    """How many fillings a bill has."""
    look_both(lot, bill)
    return tables_of(lot, bill)[0].get(bill, 0)


def fillings(lot, bill, *, most=MOST_LISTED):
    """All fillings of a bill, rising."""
    look_both(lot, bill)
    tables = tables_of(lot, bill)
    if tables[0].get(bill, 0) > most:
        raise TooMany(most)
    begun = [((), bill)] if bill in tables[0] else []
    for kind, hold in enumerate(lot[:-1]):
        # What the further kinds can't fill is dropped at once, so there are never more than fillings.
        begun = [
            (counts + (count,), left) for counts, rest in begun for count, left in takings(rest, hold)
            if left in tables[kind + 1]
        ]
    # Of the last kind there is no choice.
    return [counts + (sum(rest) // sum(lot[-1]),) for counts, rest in begun]


def filling_at(lot, bill, place):
    """The filling at a place."""
    look_both(lot, bill)
    tables = tables_of(lot, bill)
    if not 0 <= place < tables[0].get(bill, 0):
        raise NoPlace(place)
    counts = ()
    rest = bill
    further = place
    for kind, hold in enumerate(lot):
        count = 0
        many = tables[kind + 1].get(rest, 0)
        while further >= many:
            further -= many
            count += 1
            rest = less(rest, hold)
            many = tables[kind + 1].get(rest, 0)
        counts += (count,)
    return counts


def is_filling(lot, bill, counts):
    """Whether counts are a filling of a bill."""
    if len(counts) != len(lot) or min(counts) < 0:
        return False
    return all([packed(lot, counts, good) == amount for good, amount in enumerate(bill)])


def place_of(lot, bill, counts):
    """The place of a filling."""
    look_both(lot, bill)
    if not is_filling(lot, bill, counts):
        raise BadCounts(-1)
    tables = tables_of(lot, bill)
    place = 0
    rest = bill
    for kind, hold in enumerate(lot):
        ahead = takings(rest, hold)[:counts[kind]]
        place += sum([tables[kind + 1].get(left, 0) for count, left in ahead])
        rest = less(rest, hold, counts[kind])
    return place


def counts_of_bills(lot, bill):
    """How many fillings each bill has that can be filled and has no amount above this one's."""
    look_both(lot, bill)
    return tables_of(lot, bill)[0]


def spread(shares, hold):
    """Shares of amounts, and of them with each multiple of a hold below ROUND more."""
    wider = [0] * (len(shares) + ROUND - hold)
    for amount, many in enumerate(shares):
        for more in range(0, ROUND, hold):
            wider[amount + more] += many
    return wider


def choices(many, few):
    """How many ways there are to choose a few of many."""
    ways = 1
    for step in range(few):
        ways = ways * (many - step) // (step + 1)
    return ways


def how_many_of_one(lot, amount):
    """How many fillings an amount has in a lot of one good, however great it is."""
    if goods_of(lot) != 1:
        raise OtherGoods()
    look_bill(lot, (amount,))
    # Hampers of a kind are whole rounds of it and fewer than a round: the latter are spread, the former chosen.
    shares = [1]
    for hold in lot:
        shares = spread(shares, hold[0])
    told = 0
    for start in range(amount % ROUND, min(len(shares), amount + 1), ROUND):
        rounds = (amount - start) // ROUND
        told += shares[start] * choices(rounds + len(lot) - 1, len(lot) - 1)
    return told
