"""Integers modulo a large number, and the way back from them to fractions."""

from math import isqrt

from rowsworn.fractions import fraction


def inverse(x, m):
    """Return the y from 0 to m - 1 with x * y = 1 modulo m; x and m share no divisor above 1."""
    high, low = m, x % m
    above, below = 0, 1
    while low > 0:
        many = high // low
        high, low = low, high - many * low
        above, below = below, above - many * below
    return above % m


def near_fraction(x, m):
    """Return a fraction p/q with x * q = p modulo m whose p and q are about as long as each other.

    If there is a fraction with p and q at most the root of m // 2, it is returned.
    """
    limit = isqrt(m // 2)
    high, low = m, x % m
    above, below = 0, 1
    while low > limit:
        many = high // low
        high, low = low, high - many * low
        above, below = below, above - many * below
    return fraction(low, below)
