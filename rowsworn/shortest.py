"""Shortest recurrences of rows and of lists of first values (points 8 and 12)."""

from rowsworn.finding import find_recurrence
from rowsworn.rows import bound, values


def shortest(e):
    """Return the shortest recurrence of the row."""
    return shortened(e)[1]


def shortened(e):
    """Return the expression of the same row that tells it by its shortest recurrence."""
    # Nothing within needs to be looked at then, however large it is.
    if bound(e) == 0:
        return ("row", (), ())
    # The bounds of the parts multiply, so each part is shortened before they do.
    light = _with_short_parts(e)
    found = values(light, 2 * bound(light))
    recurrence = find_recurrence(found)
    return ("row", recurrence, tuple(found[:len(recurrence)]))


def _with_short_parts(e):
    kind = e[0]
    if kind == "row":
        return e
    if kind == "weave":
        return (kind, tuple([shortened(row) for row in e[1]]))
    if kind in ("sum", "product", "fold"):
        return (kind, shortened(e[1]), shortened(e[2]))
    # The kinds that are left have one expression within, as their last item.
    return (*e[:-1], shortened(e[-1]))


def order_of(fractions):
    """Return the order of the list of fractions."""
    return len(find_recurrence(fractions))


def recurrence_for(fractions):
    """Return a recurrence of as many fractions as the order of the list that the list keeps."""
    return find_recurrence(fractions)


def is_forced(fractions):
    """Return True if the list keeps one recurrence alone of as many fractions as its order."""
    return 2 * order_of(fractions) <= len(fractions)
