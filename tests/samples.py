"""Expressions that several tests use."""

from tests.reference import pair, row

THIRTY = 123456789012345678901234567890
THIRTY_MORE = 987654321098765432109876543211

NOTHING = row([], [])
ONES = row([1], [1])
HALVES = row(["-1/2"], ["3/4"])
ONLY_FIRST = row([0], [5])
FIBONACCI = row([1, 1], [0, 1])
COUNTING = row([2, -1], [0, 1])
LATE = row([2, "1/3", 0], ["-1/6", 4, 7])
LARGE = row([f"{THIRTY}/{THIRTY_MORE}", -THIRTY], [THIRTY_MORE, f"-7/{THIRTY}"])
SIX = row([1, "-2/3", 0, "5/4", 2, "1/7"], ["1/2", 0, -3, "2/5", 1, 1])

ROWS = {
    "nothing": NOTHING,
    "ones": ONES,
    "halves": HALVES,
    "only first": ONLY_FIRST,
    "fibonacci": FIBONACCI,
    "late": LATE,
    "large": LARGE,
    "six": SIX,
}


def made_from(e, f):
    """Return at least one expression of each kind but row that is made from e and f."""
    return [
        ("sum", e, f),
        ("product", e, f),
        ("fold", e, f),
        ("times", (0, 1), e),
        ("times", (-3, 4), f),
        ("shift", 0, e),
        ("shift", 3, f),
        ("put", (0, 1), e),
        ("put", pair(f"-5/{THIRTY_MORE}"), f),
        ("sums", e),
        ("every", 1, 0, f),
        ("every", 2, 3, e),
        ("weave", (f,)),
        ("weave", (e, f, e)),
    ]


def alone(place, x):
    """Return the told row that has x at the place and 0 at all others."""
    zeros = [0] * place
    return row([0, *zeros], [*zeros, x])


def apart(e, place, x="1/7"):
    """Return a row that differs from the one of e at the place alone."""
    return ("sum", e, alone(place, x))


def deep(levels):
    """Return an expression that is as many levels deep, of alternating kinds."""
    e = HALVES
    for level in range(levels - 1):
        makers = [
            ("put", (level, 1), e),
            ("sum", e, FIBONACCI),
            ("shift", 1, e),
            ("times", (-2, 3), e),
            ("sums", e),
            ("weave", (e, ONES)),
            ("fold", e, ONLY_FIRST),
            ("product", e, HALVES),
            ("every", 2, 1, e),
        ]
        e = makers[level % len(makers)]
    return e


# Some of these are told by recurrences that are not whole.
WHOLE = {
    "nothing": NOTHING,
    "ones": ONES,
    "only first": ONLY_FIRST,
    "fibonacci": FIBONACCI,
    "counting": COUNTING,
    "below 0": row([-2, 3, 1], [-1, 4, -7]),
    "zeros told by parts": row(["1/2", "-3/7"], [0, 0]),
    "ones told by parts": row(["1/2", "1/2"], [1, 1]),
    "twos told by parts": row(["4/3", "-1/3"], [2, 2]),
    "powers of 3 told by parts": row(["7/2", "-3/2"], [1, 3]),
    "fibonacci told by parts": row(["5/3", "1/3", "-2/3"], [0, 1, 1]),
    "counting told by parts": row(["5/2", -2, "1/2"], [0, 1, 2]),
    "halves less halves": ("sum", HALVES, ("times", (-1, 1), HALVES)),
    "half of even ones": ("times", (1, 2), row([1], [6])),
    "halves times powers of 2": ("product", row(["1/2"], [1]), row([2], [1])),
    "binomials": ("times", (1, 2), ("product", COUNTING, ("shift", 1, COUNTING))),
    "binomials of three": ("times", (1, 6), row([4, -6, 4, -1], [0, 6, 24, 60])),
    "each second one": ("every", 2, 0, ("weave", (FIBONACCI, HALVES))),
    "behind the parts": ("shift", 3, row([1, 0, 0, 0], ["1/2", "1/3", "1/5", 4])),
    "ends in zeros": alone(9, 4),
}
