"""Whole rows, and the remainders of their values at places however great (points 10 and 11)."""

from rowsworn.errors import NotWhole
from rowsworn.finding import over_one_divisor
from rowsworn.shortest import shortened
from rowsworn.strides import Strides


def first_part(e):
    """Return the least place at which the value is not whole, or None if the row is whole."""
    return _first_part_told(shortened(e))


def remainder_at(e, place, m):
    """Return the remainder of the value at the place modulo m."""
    factors, first = whole_numbers(e)
    stride = Strides(factors, m).stride(place)
    return sum([x * y for x, y in zip(stride, first)]) % m


def whole_numbers(e):
    """Return the shortest recurrence of a whole row and as many first values, as integers."""
    row = shortened(e)
    place = _first_part_told(row)
    if place is not None:
        raise NotWhole(place)
    _, recurrence, first = row
    return [p for p, _ in recurrence], [p for p, _ in first]


def _first_part_told(row):
    """Return what first_part does of a row that is told by its shortest recurrence."""
    _, recurrence, first = row
    place = _first_not_whole(first)
    if place is not None:
        return place
    if _first_not_whole(recurrence) is None:
        return None
    return _walked_to_part(recurrence, [p for p, _ in first])


def _first_not_whole(fractions):
    for at, (_, q) in enumerate(fractions):
        if q != 1:
            return at
    return None


def _walked_to_part(recurrence, latest):
    """Return the first place behind the first values, which are integers, that is not whole."""
    # There is one: the recurrence is the shortest of the row and is not whole (point 10).
    factors, divisor = over_one_divisor(recurrence)
    # The first fraction of a recurrence belongs to the latest value.
    factors = factors[::-1]
    place = len(latest)
    while True:
        told = sum([c * x for c, x in zip(factors, latest)])
        if told % divisor != 0:
            return place
        latest = [*latest[1:], told // divisor]
        place += 1
