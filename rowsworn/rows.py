"""Expressions, the rows for which they stand, and their bounds (points 4 to 6)."""

from math import lcm

from rowsworn.fractions import fraction, plus, times

ZERO = (0, 1)


def bound(e):
    """Return the bound of the expression."""
    kind = e[0]
    if kind == "row":
        return len(e[1])
    if kind == "product":
        return bound(e[1]) * bound(e[2])
    if kind in ("sum", "fold"):
        return bound(e[1]) + bound(e[2])
    if kind == "weave":
        return len(e[1]) * sum([bound(row) for row in e[1]])
    # The kinds that are left have one expression within, as their last item.
    within = bound(e[-1])
    if kind in ("put", "sums"):
        return within + 1
    return within


def _paired(xs, ys):
    """Return the sum of the products of the fractions at the same index."""
    # With large numbers, lowest terms once at the end are far cheaper than at each step.
    total, below = 0, 1
    for (p, q), (r, s) in zip(xs, ys):
        shared = lcm(below, q * s)
        total = total * (shared // below) + p * r * (shared // (q * s))
        below = shared
    return fraction(total, below)


def _row_values(e, count):
    _, recurrence, first = e
    found = list(first[:count])
    for at in range(len(first), count):
        # The first fraction of the recurrence belongs to the latest value.
        latest = found[at - len(recurrence):]
        found.append(_paired(recurrence, latest[::-1]))
    return found


def _sum_values(e, count):
    _, left, right = e
    return [plus(x, y) for x, y in zip(values(left, count), values(right, count))]


def _product_values(e, count):
    _, left, right = e
    return [times(x, y) for x, y in zip(values(left, count), values(right, count))]


def _fold_values(e, count):
    _, left, right = e
    ahead = values(left, count)
    back = values(right, count)[::-1]
    # The last n + 1 items of back are the values at n, n - 1 .. 0, and end the pairs.
    return [_paired(ahead, back[count - 1 - n:]) for n in range(count)]


def _times_values(e, count):
    _, x, within = e
    return [times(x, y) for y in values(within, count)]


def _shift_values(e, count):
    _, k, within = e
    return _values_at(within, k, 1, count)


def _put_values(e, count):
    _, x, within = e
    return [x, *values(within, count - 1)]


def _sums_values(e, count):
    _, within = e
    total = ZERO
    found = []
    for x in values(within, count):
        total = plus(total, x)
        found.append(total)
    return found


def _every_values(e, count):
    _, k, r, within = e
    return _values_at(within, r, k, count)


def _weave_values(e, count):
    _, rows = e
    many = len(rows)
    # The row i stands at the places i, i + many, .. below count.
    parts = [values(row, (count - i + many - 1) // many) for i, row in enumerate(rows)]
    return [parts[n % many][n // many] for n in range(count)]


VALUES_OF = {
    "row": _row_values,
    "sum": _sum_values,
    "product": _product_values,
    "fold": _fold_values,
    "times": _times_values,
    "shift": _shift_values,
    "put": _put_values,
    "sums": _sums_values,
    "every": _every_values,
    "weave": _weave_values,
}


def values(e, count):
    """Return the list of the values at the places 0 to count - 1."""
    if count == 0:
        return []
    # Nothing within needs to be looked at then, however large it is.
    if bound(e) == 0:
        return [ZERO] * count
    reckon = VALUES_OF[e[0]]
    return reckon(e, count)


def value(e, place):
    """Return the value at the place."""
    return _values_at(e, place, 1, 1)[0]


def _values_at(e, start, step, count):
    """Return the list of the values at start, start + step and on, as many as count, above 0."""
    if e[0] != "row" or bound(e) == 0:
        return values(e, start + step * (count - 1) + 1)[start::step]
    # The values of a growing row become long, so only those that tell the next ones are kept.
    _, recurrence, first = e
    latest = _walked(recurrence, first, start)
    found = [latest[0]]
    for _ in range(count - 1):
        latest = _walked(recurrence, latest, step)
        found.append(latest[0])
    return found


def _walked(recurrence, latest, places):
    """Return the values so many places on, as many as the fractions of the recurrence."""
    for _ in range(places):
        latest = (*latest[1:], _paired(recurrence, latest[::-1]))
    return latest
