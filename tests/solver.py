"""Linear equations over Python's own Fractions, and what they tell of lists, tables and rows.

Nothing here is worked out as in the program: each number of fractions is tried in turn.
"""

from fractions import Fraction
from itertools import permutations

from rowsworn.rows import bound
from tests.reference import pair, told


def cleared(rows, columns):
    """Return the rows after Gauss and Jordan, and in how many columns a row leads."""
    rows = [[Fraction(x) for x in row] for row in rows]
    leads = 0
    for column in range(columns):
        at = next((i for i in range(leads, len(rows)) if rows[i][column] != 0), None)
        if at is None:
            continue
        rows[leads], rows[at] = rows[at], rows[leads]
        rows[leads] = [x / rows[leads][column] for x in rows[leads]]
        for i, row in enumerate(rows):
            if i != leads and row[column] != 0:
                rows[i] = [x - row[column] * y for x, y in zip(row, rows[leads])]
        leads += 1
    return rows, leads


def least(xs):
    """Return the order of a list, and the one recurrence of as many fractions or None if more.

    The recurrence is a tuple of tuples (p, q), as the program has it.
    """
    xs = [Fraction(x) for x in xs]
    for d in range(len(xs) + 1):
        equations = [xs[n:n + d][::-1] + [xs[n + d]] for n in range(len(xs) - d)]
        rows, leads = cleared(equations, d)
        if all(row[d] == 0 for row in rows[leads:]):
            alone = leads == d
            return d, tuple(pair(row[d]) for row in rows[:d]) if alone else None
    raise AssertionError("each list keeps as many fractions as it has")


def list_keeps(xs, recurrence):
    """Return True if the condition of point 4 holds at all places of the list."""
    d = len(recurrence)
    return all(
        xs[n + d] == sum((Fraction(*recurrence[i]) * xs[n + d - 1 - i] for i in range(d)), Fraction(0))
        for n in range(len(xs) - d)
    )


def first_values(e, count):
    """Return the list of the first values of the row, as Fractions."""
    return [told(e, n) for n in range(count)]


def row_keeps(e, recurrence):
    """Return True if the row keeps the recurrence; some places more than needed are tried."""
    return list_keeps(first_values(e, bound(e) + len(recurrence) + 3), recurrence)


def shortest_of(e):
    """Return the shortest recurrence of the row."""
    return least(first_values(e, 2 * bound(e)))[1]


def table(e, d):
    """Return the table of order d of the row, of Fractions."""
    return [[told(e, i + j) for j in range(d)] for i in range(d)]


def by_permutations(rows):
    """Return the determinant as the sum over all permutations."""
    total = Fraction(0)
    for order in permutations(range(len(rows))):
        swaps = sum(order[i] > order[j] for j in range(len(order)) for i in range(j))
        part = Fraction((-1) ** swaps)
        for i, j in enumerate(order):
            part *= rows[i][j]
        total += part
    return total


def by_first_row(rows):
    """Return the determinant, expanded along the first row."""
    if not rows:
        return Fraction(1)
    total = Fraction(0)
    for j, x in enumerate(rows[0]):
        if x != 0:
            total += (-1) ** j * x * by_first_row([row[:j] + row[j + 1:] for row in rows[1:]])
    return total


def is_singular(rows):
    """Return True if the determinant is 0."""
    return cleared(rows, len(rows))[1] < len(rows)


def longer(recurrence, x):
    """Return the recurrence with one fraction more that is also kept by the powers of x."""
    # The polynomial 1, -c[0], -c[1] .. times the one of the powers of x, 1, -x.
    x = Fraction(x)
    powers = [Fraction(1)] + [-Fraction(*c) for c in recurrence]
    product = [a - x * b for a, b in zip(powers + [0], [0] + powers)]
    return tuple(pair(-c) for c in product[1:])


def of_roots(*roots):
    """Return the recurrence that the powers of all the roots keep, a power of n times if twice."""
    recurrence = ()
    for x in roots:
        recurrence = longer(recurrence, x)
    return recurrence
