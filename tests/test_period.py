"""Point 11: the period of a row modulo a number, against a search value by value."""

import unittest

from rowsworn.errors import NotWhole
from rowsworn.periods import period, period_holds
from rowsworn.rows import bound
from rowsworn.whole import first_part
from tests.reference import least_part, row, told
from tests.samples import (
    COUNTING, FIBONACCI, HALVES, LATE, NOTHING, ONES, ONLY_FIRST, SIX, WHOLE, alone, apart, made_from,
)

TRIBONACCI = row([1, 1, 1], [0, 0, 1])

UP_TO_THREE = [
    NOTHING,
    ONES,
    ONLY_FIRST,
    FIBONACCI,
    COUNTING,
    TRIBONACCI,
    row([2], [1]),
    row([-1], [3]),
    row([6], [1]),
    row([10], [7]),
    row([0], [12]),
    row([1, 0], [4, 9]),
    row([3, 6], [1, 1]),
    row([0, -1], [1, 2]),
    row([0, 4], [1, 3]),
    row([2, 2], [-5, 4]),
    row([0, 0], [1, 1]),
    row([3, -3, 1], [0, 1, 4]),
    row([0, 0, 2], [1, 2, 3]),
    row([1, 0, 6], [0, 0, 1]),
    row([5, 7, 12], [2, -3, 1]),
    row([1, 1, 0], [4, 0, 1]),
    row([2, 0, 0], [1, 5, 5]),
    row([0, 0, 0], [3, 1, 2]),
    row([-1, -1, -1], [1, 1, 1]),
    ("put", (5, 1), ONES),
    ("put", (5, 1), ("put", (-2, 1), row([4], [4]))),
    ("put", (5, 1), FIBONACCI),
    ("sums", FIBONACCI),
    ("sums", COUNTING),
    ("times", (6, 1), FIBONACCI),
    ("product", FIBONACCI, FIBONACCI),
    ("weave", (ONES, NOTHING, ONES)),
    ("every", 3, 1, FIBONACCI),
]


def searched(e, m):
    """Return the period, found by going through the values until a window comes again.

    So many values as the bound tells make all that follow.
    """
    many = bound(e)
    met = {}
    n = 0
    window = tuple(told(e, k).numerator % m for k in range(many))
    while window not in met:
        met[window] = n
        window = (*window, told(e, n + many).numerator % m)[1:]
        n += 1
    return met[window], n - met[window]


class PeriodTest(unittest.TestCase):
    def test_up_to_three_fractions(self):
        for e in UP_TO_THREE:
            for m in range(1, 13):
                self.assertEqual(period(e, m), searched(e, m), (e, m))

    def test_rows_told_by_parts(self):
        for name, e in WHOLE.items():
            for m in (1, 2, 5, 9, 12):
                self.assertEqual(period(e, m), searched(e, m), (name, m))

    def test_joined_rows(self):
        for e in [*made_from(FIBONACCI, row([2], [3])), *made_from(TRIBONACCI, row([1, 2], [0, 1]))]:
            if least_part(e, 30) is None:
                for m in (2, 3, 4, 6):
                    self.assertEqual(period(e, m), searched(e, m), (e, m))

    def test_by_hand(self):
        self.assertEqual(period(COUNTING, 10), (0, 10))
        self.assertEqual(period(row([2], [1]), 12), (2, 2))
        self.assertEqual(period(row([10], [1]), 8), (3, 1))
        self.assertEqual(period(row([10], [1]), 7), (0, 6))
        self.assertEqual(period(FIBONACCI, 10), (0, 60))
        self.assertEqual(period(ONLY_FIRST, 10), (1, 1))
        self.assertEqual(period(ONLY_FIRST, 5), (0, 1))
        self.assertEqual(period(row([-1], [1]), 2), (0, 1))
        self.assertEqual(period(row([-1], [1]), 3), (0, 2))
        self.assertEqual(period(("put", (3, 1), ("put", (1, 1), row([0, 1], [3, 1]))), 9), (0, 2))
        self.assertEqual(period(("put", (3, 1), ("put", (2, 1), row([0, 1], [3, 1]))), 9), (2, 2))
        self.assertEqual(period(("put", (4, 1), ("put", (1, 1), row([0, 1], [3, 1]))), 9), (1, 2))

    def test_the_number_1_and_the_row_of_zeros(self):
        for e in [*UP_TO_THREE, *[e for e in WHOLE.values()]]:
            self.assertEqual(period(e, 1), (0, 1))
        for m in (1, 2, 12, 10 ** 40):
            self.assertEqual(period(NOTHING, m), (0, 1))
            self.assertEqual(period(row([3, 4, 5], [0, 0, 0]), m), (0, 1))
            self.assertEqual(period(("times", (m, 1), TRIBONACCI), m), (0, 1))

    def test_a_value_changed_or_put_in_front(self):
        for place in (0, 1, 5, 30):
            self.assertEqual(period(apart(FIBONACCI, place, 1), 10), (place + 1, 60))
            self.assertEqual(period(apart(FIBONACCI, place, 10), 10), (0, 60))
            self.assertEqual(period(alone(place, 3), 6), (place + 1, 1))

    def test_a_power_of_a_prime_with_new_lengths_at_its_second_step(self):
        # Modulo 2 the row is all ones, modulo 4 it has twice a row that comes round after 7.
        e = ("sum", ONES, ("times", (2, 1), row([0, 1, 1], [0, 0, 1])))
        self.assertEqual(period(e, 2), (0, 1))
        self.assertEqual(period(e, 4), (0, 7))
        self.assertEqual(period(e, 8), searched(e, 8))

    def test_great_periods(self):
        self.assertEqual(period(FIBONACCI, 10 ** 20), (0, 15 * 10 ** 19))
        self.assertEqual(period(COUNTING, 9973 * 10007), (0, 9973 * 10007))
        self.assertEqual(period(row([5], [1]), 2 ** 90), (0, 2 ** 88))
        self.assertEqual(period(row([5], [1]), 10 ** 9 + 7), (0, 10 ** 9 + 6))
        self.assertEqual(period(row([10], [1]), 10 ** 50), (50, 1))
        self.assertEqual(period(row([10008], [1]), 10007 ** 25), (0, 10007 ** 24))
        self.assertEqual(period(row([6], [1]), 2 ** 70 * 7 ** 3), (70, 14 * 7))

    def test_short_periods_modulo_great_numbers(self):
        for m in (10 ** 30 + 57, (10 ** 9 + 7) * (10 ** 9 + 9), 2 ** 200):
            self.assertEqual(period(ONES, m), (0, 1))
            self.assertEqual(period(row([0, -1], [1, 2]), m), (0, 4))
            self.assertEqual(period(("put", (7, 1), ("weave", (ONES, NOTHING))), m), (1, 2))

    def test_the_period_is_the_one_that_holds(self):
        for e in UP_TO_THREE:
            for m in range(1, 13):
                ahead, length = period(e, m)
                self.assertIs(period_holds(e, m, ahead, length), True, (e, m))
                self.assertTrue(ahead >= 0 and length > 0)


class NotWholeTest(unittest.TestCase):
    def check(self, e, least):
        for m in (1, 2, 12):
            with self.assertRaises(NotWhole) as caught:
                period(e, m)
            self.assertEqual(caught.exception.place, least)
            for ahead, length in ((0, 1), (-1, 1), (0, 0), (5, -3), (10 ** 25, 10 ** 25), (-10 ** 25, -1)):
                with self.assertRaises(NotWhole) as caught:
                    period_holds(e, m, ahead, length)
                self.assertEqual(caught.exception.place, least)

    def test_the_least_place(self):
        self.check(HALVES, 0)
        self.check(row([1, "1/2"], [0, 1]), 3)
        self.check(("times", (2 ** 9, 1), row(["1/2"], [1])), 10)
        for place in (0, 3, 40):
            self.check(apart(FIBONACCI, place, "1/2"), place)
            self.check(apart(NOTHING, place, "-1/3"), place)

    def test_joined_rows(self):
        for e in [*made_from(HALVES, FIBONACCI), *made_from(LATE, ONES), *made_from(SIX, ONLY_FIRST)]:
            if first_part(e) is not None:
                self.check(e, least_part(e, 60))


if __name__ == "__main__":
    unittest.main()
