"""Which recurrences a row keeps, and whether they are its shortest (points 4, 7 and 8)."""

from rowsworn.finding import list_keeps, over_one_divisor
from rowsworn.fractions import fraction
from rowsworn.rows import bound, values
from rowsworn.shortest import shortened

GLANCE = 8


def keeps(e, recurrence):
    """Return True if the row keeps the recurrence, otherwise False."""
    if not _first_places_keep(e, recurrence):
        return False
    row = shortened(e)
    return list_keeps(values(row, len(recurrence) + bound(row)), recurrence)


def is_shortest(e, recurrence):
    """Return True if the recurrence is the shortest one of the row, otherwise False."""
    return _first_places_keep(e, recurrence) and shortened(e)[1] == recurrence


def _first_places_keep(e, recurrence):
    # Most recurrences that are not kept fail at once; shortening costs far more than a look.
    return list_keeps(values(e, len(recurrence) + GLANCE), recurrence)


def determinant(e, d):
    """Return the determinant of the table of order d of the row."""
    if d > bound(e):
        return (0, 1)
    numbers, divisor = over_one_divisor(values(e, max(0, 2 * d - 1)))
    below = 1
    for _ in range(d):
        below = below * divisor
    return fraction(_determinant([numbers[i:i + d] for i in range(d)]), below)


def _determinant(table):
    """Return the determinant of a table of integers."""
    # Divisions by the pivot before leave no remainder (Bareiss), so all stays in integers.
    sign, before = 1, 1
    while table:
        at = _first_without_0(table)
        if at is None:
            return 0
        # The row moves ahead of as many rows as stood before it.
        if at % 2 == 1:
            sign = -sign
        lead = table[at]
        table = [_cleared(row, lead, before) for row in table[:at] + table[at + 1:]]
        before = lead[0]
    return sign * before


def _first_without_0(table):
    for at, row in enumerate(table):
        if row[0] != 0:
            return at
    return None


def _cleared(row, lead, before):
    return [(lead[0] * x - row[0] * y) // before for x, y in zip(row[1:], lead[1:])]
