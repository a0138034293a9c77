"""Texts of expressions (point 13)."""

from math import gcd

from rowsworn.errors import BadText

DEEPEST = 12
MOST_DIGITS = 9
DIGITS = "0123456789"

# What stands behind the word of each kind but row and weave.
PARTS_OF = {
    "sum": ("expression", "expression"),
    "product": ("expression", "expression"),
    "fold": ("expression", "expression"),
    "times": ("fraction", "expression"),
    "shift": ("integer", "expression"),
    "put": ("fraction", "expression"),
    "sums": ("expression",),
    "every": ("integer above 0", "integer", "expression"),
}

# Python itself refuses to write numbers of many digits at once.
BITS_AT_ONCE = 2000


def write_row(e):
    """Return the text of the expression."""
    return " ".join(_words_of(e))


def _words_of(e):
    kind = e[0]
    if kind == "row":
        _, recurrence, first = e
        return [kind, _integer_word(len(recurrence)), *[_fraction_word(x) for x in (*recurrence, *first)]]
    found = [kind]
    if kind == "weave":
        found.append(_integer_word(len(e[1])))
        for within in e[1]:
            found.extend(_words_of(within))
        return found
    for part, told in zip(PARTS_OF[kind], e[1:]):
        if part == "expression":
            found.extend(_words_of(told))
        elif part == "fraction":
            found.append(_fraction_word(told))
        else:
            found.append(_integer_word(told))
    return found


def _fraction_word(x):
    p, q = x
    if q == 1:
        return _integer_word(p)
    return _integer_word(p) + "/" + _integer_word(q)


def _integer_word(n):
    if n < 0:
        return "-" + _integer_word(-n)
    if n.bit_length() <= BITS_AT_ONCE:
        return str(n)
    power, zeros = 10 ** 64, 64
    while power * power <= n:
        power, zeros = power * power, 2 * zeros
    return _integer_word(n // power) + _integer_word(n % power).zfill(zeros)


def read_row(text):
    """Return the expression of the text."""
    words = Words(text.split(" "))
    e = words.expression(DEEPEST)
    words.end()
    return e


class Words:
    """The words of a text, which are read one behind the other."""

    def __init__(self, words):
        self._words = words
        self._place = 0

    def end(self):
        """Raise BadText if there are words left."""
        if self._place < len(self._words):
            raise BadText("there are words behind the end")

    def expression(self, deepest):
        """Read an expression that is at most so deep."""
        if deepest == 0:
            raise BadText("the expression is too deep")
        kind = self._word()
        if kind == "row":
            many = _read_integer(self._word())
            recurrence = tuple([_read_fraction(self._word()) for _ in range(many)])
            return (kind, recurrence, tuple([_read_fraction(self._word()) for _ in range(many)]))
        if kind == "weave":
            many = _read_above_0(self._word())
            return (kind, tuple([self.expression(deepest - 1) for _ in range(many)]))
        if kind not in PARTS_OF:
            raise BadText("there is no such kind of expression")
        return (kind, *[self._part(part, deepest) for part in PARTS_OF[kind]])

    def _part(self, part, deepest):
        if part == "expression":
            return self.expression(deepest - 1)
        word = self._word()
        if part == "fraction":
            return _read_fraction(word)
        if part == "integer":
            return _read_integer(word)
        return _read_above_0(word)

    def _word(self):
        if self._place == len(self._words):
            raise BadText("there are too few words")
        self._place += 1
        return self._words[self._place - 1]


def _read_fraction(word):
    above, line, below = word.partition("/")
    if above.startswith("-"):
        p = -_read_above_0(above[1:])
    else:
        p = _read_integer(above)
    if line == "":
        return (p, 1)
    q = _read_integer(below)
    if q < 2 or gcd(p, q) > 1:
        raise BadText("the fraction has a shorter word")
    return (p, q)


def _read_above_0(word):
    n = _read_integer(word)
    if n == 0:
        raise BadText("there is a 0 where none may be")
    return n


def _read_integer(word):
    """Return the integer of a word without a sign."""
    if not 0 < len(word) <= MOST_DIGITS:
        raise BadText("a number is missing or too long")
    for sign in word:
        if sign not in DIGITS:
            raise BadText("a sign is not a digit")
    if word[0] == "0" and word != "0":
        raise BadText("there is a 0 ahead of a number")
    return int(word)
