"""Fractions: tuples (p, q) in lowest terms, q positive (point 3)."""

from math import gcd

from rowsworn.errors import NoFraction


def fraction(p, q):
    """Return the fraction that stands for p divided by q."""
    if q == 0:
        raise NoFraction("nothing is divided by 0")
    shared = gcd(p, q)
    # Dividing by a negative number moves the sign of q to p.
    if q < 0:
        shared = -shared
    return (p // shared, q // shared)


def plus(x, y):
    """Return the sum of two fractions."""
    p, q = x
    r, s = y
    return fraction(p * s + r * q, q * s)


def minus(x, y):
    """Return x less y."""
    p, q = x
    r, s = y
    return fraction(p * s - r * q, q * s)


def times(x, y):
    """Return the product of two fractions."""
    p, q = x
    r, s = y
    return fraction(p * r, q * s)


def over(x, y):
    """Return x divided by y."""
    p, q = x
    r, s = y
    return fraction(p * s, q * r)
