"""Papers that two rows are equal or differ (point 9)."""

from rowsworn.keeping import GLANCE, keeps
from rowsworn.rows import bound, value, values
from rowsworn.shortest import shortened

FAR = 100


def judge(e, f):
    """Return an accepted paper that the rows are equal, or the least place where they differ."""
    # Rows that differ mostly do so at once; shortening costs far more than a look.
    place = _first_difference(e, f, GLANCE)
    if place is not None:
        return ("differ", place)
    left = shortened(e)
    right = shortened(f)
    if left == right:
        return ("equal", left[1])
    return ("differ", _first_difference(left, right, bound(left) + bound(right)))


def _first_difference(e, f, count):
    for place, (x, y) in enumerate(zip(values(e, count), values(f, count))):
        if x != y:
            return place
    return None


def accepts(e, f, paper):
    """Return True if the paper is accepted for the two expressions, otherwise False."""
    word, told = paper
    if word == "differ":
        return told >= 0 and _value_at(e, told) != _value_at(f, told)
    d = len(told)
    return values(e, d) == values(f, d) and keeps(e, told) and keeps(f, told)


def _value_at(e, place):
    # Each value of a fold takes all those before it of its parts; a told row takes a few.
    if place < FAR:
        return value(e, place)
    return value(shortened(e), place)
