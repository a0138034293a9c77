"""Points 10 and 11: remainders of values, also at places of hundreds of digits."""

import unittest

from rowsworn.errors import BadText, NoFraction, NotWhole, RowError
from rowsworn.rows import values
from rowsworn.shortest import shortest
from rowsworn.whole import first_part, remainder_at
from tests.reference import least_part, row, told
from tests.samples import (
    COUNTING, FIBONACCI, HALVES, LATE, NOTHING, ONES, ONLY_FIRST, SIX, WHOLE, alone, apart, deep, made_from,
)

GREAT = [10 ** 20 + 7, 123456789012345678901234567890, 10 ** 300, 7 ** 700, 2 ** 2000 - 1]
NUMBERS = [1, 2, 3, 10, 12, 97, 2 ** 64, 10 ** 9 + 7, 10 ** 30]
JOINED_OF = [("fibonacci", "counting"), ("below 0", "ends in zeros"), ("counting", "fibonacci told by parts")]


def joined_rows():
    """Return whole rows that are joined of others, of all kinds, and joined of joined ones."""
    found = [e for x, y in JOINED_OF for e in made_from(WHOLE[x], WHOLE[y]) if least_part(e, 40) is None]
    inner = made_from(FIBONACCI, COUNTING)
    for i, within in enumerate(inner):
        outer = made_from(within, inner[(i + 5) % len(inner)])
        found.append(outer[i % len(outer)])
        found.append(outer[(i + 6) % len(outer)])
    return [e for e in found if least_part(e, 40) is None]


def fibonacci_at(n, m):
    """Return the remainders of the values at n and n + 1, by doubling the place."""
    a, b = 0, 1 % m
    for bit in f"{n:b}":
        a, b = a * (2 * b - a) % m, (a * a + b * b) % m
        if bit == "1":
            a, b = b, (a + b) % m
    return a, b


class FirstPlacesTest(unittest.TestCase):
    def test_the_remainders_of_the_values(self):
        for name, e in WHOLE.items():
            for m in (1, 2, 3, 7, 12, 10 ** 9, 10 ** 30):
                for n in range(41):
                    found = remainder_at(e, n, m)
                    self.assertEqual(found, told(e, n).numerator % m, (name, n, m))
                    self.assertTrue(0 <= found < m)

    def test_values_below_0(self):
        e = row([-3], [-1])
        self.assertEqual([remainder_at(e, n, 10) for n in range(5)], [9, 3, 1, 7, 9])
        self.assertEqual([remainder_at(("times", (-1, 1), COUNTING), n, 5) for n in range(7)], [0, 4, 3, 2, 1, 0, 4])

    def test_joined_rows(self):
        for e in joined_rows():
            for m in (1, 2, 12, 10 ** 30):
                for n in (0, 1, 2, 3, 7, 13, 22, 39):
                    self.assertEqual(remainder_at(e, n, m), told(e, n).numerator % m, (e, n, m))

    def test_deep_expressions(self):
        for levels in range(1, 12):
            self.assertEqual(remainder_at(("times", (0, 1), deep(levels)), 10 ** 100, 10), 0)
        e = FIBONACCI
        for level in range(11):
            e = ("put", (level, 1), e)
        self.assertEqual([remainder_at(e, n, 100) for n in range(15)], [*range(10, -1, -1), 0, 1, 1, 2])


class NotWholeTest(unittest.TestCase):
    def check(self, e, least):
        for place in (0, 1, least, least + 1, 10 ** 40):
            for m in (1, 2, 7):
                with self.assertRaises(NotWhole) as caught:
                    remainder_at(e, place, m)
                self.assertEqual(caught.exception.place, least)
                self.assertIsInstance(caught.exception, RowError)
                self.assertIsInstance(caught.exception, ValueError)
                self.assertNotIsInstance(caught.exception, (NoFraction, BadText))

    def test_the_least_place_whatever_the_place_asked(self):
        self.check(HALVES, 0)
        self.check(row([0], ["1/2"]), 0)
        self.check(row([1, "1/2"], [0, 1]), 3)
        self.check(("times", (2 ** 9, 1), row(["1/2"], [1])), 10)
        self.check(("put", (1, 1), ("put", (2, 1), SIX)), 2)
        for place in (0, 3, 40, 100):
            self.check(apart(FIBONACCI, place, "1/2"), place)
            self.check(apart(NOTHING, place, "-1/3"), place)

    def test_joined_rows(self):
        for e in [*made_from(HALVES, FIBONACCI), *made_from(LATE, ONES), *made_from(SIX, ONLY_FIRST)]:
            least = first_part(e)
            self.assertEqual(least, least_part(e, 60), e)
            if least is None:
                self.assertEqual(remainder_at(e, 3, 10), told(e, 3).numerator % 10)
            else:
                self.check(e, least)


class GreatPlacesTest(unittest.TestCase):
    def test_powers(self):
        for x in (0, 1, 2, 3, 10, -7, 10 ** 12 + 39):
            for n in GREAT:
                for m in NUMBERS:
                    self.assertEqual(remainder_at(row([x], [1]), n, m), pow(x, n, m))

    def test_places_their_squares_and_their_sums(self):
        squares = ("product", COUNTING, COUNTING)
        for n in GREAT:
            for m in NUMBERS:
                self.assertEqual(remainder_at(COUNTING, n, m), n % m)
                self.assertEqual(remainder_at(squares, n, m), n * n % m)
                self.assertEqual(remainder_at(row([3, -3, 1], [0, 1, 4]), n, m), n * n % m)
                self.assertEqual(remainder_at(("sums", COUNTING), n, m), n * (n + 1) // 2 % m)
                self.assertEqual(remainder_at(("sums", squares), n, m), n * (n + 1) * (2 * n + 1) // 6 % m)
                self.assertEqual(remainder_at(WHOLE["binomials"], n, m), n * (n + 1) // 2 % m)
                self.assertEqual(remainder_at(("sums", ONES), n, m), (n + 1) % m)

    def test_fibonacci(self):
        for n in GREAT:
            for m in NUMBERS:
                self.assertEqual(remainder_at(FIBONACCI, n, m), fibonacci_at(n, m)[0])
                self.assertEqual(remainder_at(WHOLE["fibonacci told by parts"], n, m), fibonacci_at(n, m)[0])
                self.assertEqual(remainder_at(("sums", FIBONACCI), n, m), (fibonacci_at(n + 2, m)[0] - 1) % m)

    def test_the_shortest_recurrence_modulo_the_number(self):
        for e in [*WHOLE.values(), *joined_rows()]:
            recurrence = [p for p, _ in shortest(e)]
            d = len(recurrence)
            if d > 10:
                continue
            for start, m in ((10 ** 29 + 3, 10 ** 30), (10 ** 150 + 11, 97)):
                found = [remainder_at(e, start + k, m) for k in range(d + 2)]
                for n in (0, 1):
                    told_one = sum(c * found[n + d - 1 - i] for i, c in enumerate(recurrence)) % m
                    self.assertEqual(found[n + d], told_one, e)

    def test_joined_rows_from_their_parts(self):
        rows = [FIBONACCI, COUNTING, WHOLE["below 0"], ("weave", (ONES, FIBONACCI)), ("fold", COUNTING, FIBONACCI)]
        m = 10 ** 18 + 9
        for n in (10 ** 25 + 1, 3 ** 210):
            for e in rows:
                at_n = remainder_at(e, n, m)
                self.assertEqual(remainder_at(("shift", 5, e), n, m), remainder_at(e, n + 5, m))
                self.assertEqual(remainder_at(("every", 3, 7, e), n, m), remainder_at(e, 3 * n + 7, m))
                self.assertEqual(remainder_at(("put", (4, 1), e), n + 1, m), at_n)
                self.assertEqual(remainder_at(("times", (-6, 1), e), n, m), -6 * at_n % m)
                before = remainder_at(("sums", e), n - 1, m)
                self.assertEqual(remainder_at(("sums", e), n, m), (before + at_n) % m)
                for f in rows:
                    other = remainder_at(f, n, m)
                    self.assertEqual(remainder_at(("sum", e, f), n, m), (at_n + other) % m)
                    self.assertEqual(remainder_at(("product", e, f), n, m), at_n * other % m)
                    for i, within in enumerate((e, f, e)):
                        woven = ("weave", (e, f, e))
                        self.assertEqual(remainder_at(woven, 3 * n + i, m), remainder_at(within, n, m))

    def test_folds(self):
        m = 10 ** 18 + 9
        for n in (10 ** 25 + 1, 3 ** 500):
            for e in (FIBONACCI, ("product", COUNTING, FIBONACCI), ("weave", (COUNTING, ONES)), alone(6, 5)):
                self.assertEqual(remainder_at(("fold", e, ONES), n, m), remainder_at(("sums", e), n, m))
                self.assertEqual(remainder_at(("fold", ONES, e), n, m), remainder_at(("sums", e), n, m))
                # A fold with the powers of 3, less 3 times the value before it, is the row itself.
                fold = ("fold", e, row([3], [1]))
                rest = remainder_at(fold, n, m) - 3 * remainder_at(fold, n - 1, m)
                self.assertEqual(rest % m, remainder_at(e, n, m))
                # A fold with 1 at the place 4 alone moves the row 4 places on.
                self.assertEqual(remainder_at(("fold", alone(4, 1), e), n, m), remainder_at(e, n - 4, m))

    def test_rows_that_end_in_zeros(self):
        for n in GREAT:
            self.assertEqual(remainder_at(ONLY_FIRST, n, 7), 0)
            self.assertEqual(remainder_at(alone(30, 5), n, 7), 0)
            self.assertEqual(remainder_at(apart(COUNTING, 30, 5), n, 10 ** 9), n % 10 ** 9)
            self.assertEqual(remainder_at(NOTHING, n, 7), 0)
        self.assertEqual(remainder_at(alone(30, 5), 30, 7), 5)

    def test_numbers_within_the_expression(self):
        n, m = 10 ** 100 + 1, 10 ** 12
        self.assertEqual(remainder_at(("shift", 3000, COUNTING), n, m), (n + 3000) % m)
        self.assertEqual(remainder_at(("every", 300, 2000, COUNTING), n, m), (300 * n + 2000) % m)
        self.assertEqual(remainder_at(("every", 40, 900, FIBONACCI), n, m), fibonacci_at(40 * n + 900, m)[0])

    def test_great_numbers(self):
        m = 10 ** 200 + 357
        large = 7 ** 400
        self.assertEqual(remainder_at(row([large], [-large]), 10 ** 90, m), -pow(large, 10 ** 90 + 1, m) % m)
        self.assertEqual(remainder_at(FIBONACCI, 40, m), values(FIBONACCI, 41)[40][0])


if __name__ == "__main__":
    unittest.main()
