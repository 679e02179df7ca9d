"""Sums of rows of numbers, and which of their numbers are which."""


def unit(place, many):
    """A row of so many numbers: 1 at a place, else 0."""
    return (0,) * place + (1,) + (0,) * (many - place - 1)


def opposite(row):
    """The row with each sign turned."""
    return tuple([-number for number in row])


def less(row, other, times=1):
    """The row less the other one, taken some times."""
    return tuple([number - times * taken for number, taken in zip(row, other)])


def above(row):
    """The row's numbers above 0, with 0 for all others."""
    return tuple([max(number, 0) for number in row])


def covers(row, other):
    """Whether no number of the other row is above the row's."""
    return all([number >= asked for number, asked in zip(row, other)])


def is_nought(row):
    """Whether all numbers of a row are 0."""
    return all([number == 0 for number in row])


def marks(row):
    """The places where a row has a number other than 0, as the bits of one number."""
    return sum([1 << place for place, number in enumerate(row) if number != 0])


def weighed(row, other):
    """The sum of a row's numbers, each times the other row's."""
    return sum([number * weight for number, weight in zip(row, other)])
