"""What the document says, worked out place by place and in another way than in the program.

Values are Python's own Fractions here. The functions follow the words of points 5 and 6
one place at a time, without any list of values.
"""

from fractions import Fraction
from functools import lru_cache


def pair(x):
    """Return the tuple (p, q) of a Fraction or an int."""
    x = Fraction(x)
    return (x.numerator, x.denominator)


def pairs(*xs):
    """Return the tuple of the tuples of Fractions, ints or texts such as "-3/4"."""
    return tuple(pair(x) for x in xs)


def row(recurrence, first):
    """Return a row expression; its numbers are Fractions, ints or texts."""
    return ("row", pairs(*recurrence), pairs(*first))


@lru_cache(maxsize=None)
def told(e, n):
    """Return the value of the row at the place n as a Fraction."""
    kind = e[0]
    if kind == "row":
        d = len(e[1])
        if n < d:
            return Fraction(*e[2][n])
        return sum((Fraction(*e[1][i]) * told(e, n - 1 - i) for i in range(d)), Fraction(0))
    if kind == "sum":
        return told(e[1], n) + told(e[2], n)
    if kind == "product":
        return told(e[1], n) * told(e[2], n)
    if kind == "fold":
        return sum((told(e[1], k) * told(e[2], n - k) for k in range(n + 1)), Fraction(0))
    if kind == "times":
        return Fraction(*e[1]) * told(e[2], n)
    if kind == "shift":
        return told(e[2], n + e[1])
    if kind == "put":
        return Fraction(*e[1]) if n == 0 else told(e[2], n - 1)
    if kind == "sums":
        return sum((told(e[1], k) for k in range(n + 1)), Fraction(0))
    if kind == "every":
        return told(e[3], e[1] * n + e[2])
    if kind == "weave":
        return told(e[1][n % len(e[1])], n // len(e[1]))
    raise AssertionError(f"no kind of expression: {kind}")


def told_pairs(e, count):
    """Return the list of the values at the places 0 to count - 1 as tuples (p, q)."""
    return [pair(told(e, n)) for n in range(count)]


def least_part(e, count):
    """Return the least of so many places whose value is not whole, or None."""
    return next((n for n in range(count) if told(e, n).denominator != 1), None)
