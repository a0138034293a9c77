"""Point 11: whether a pair is the period, also where no one could go through it."""

import unittest
from math import prod

from rowsworn.periods import period, period_holds
from tests.reference import row
from tests.samples import COUNTING, FIBONACCI, NOTHING, ONES, ONLY_FIRST, alone, apart

PRIMES = [p for p in range(2, 10008) if all(p % d for d in range(2, int(p ** 0.5) + 1))]
POWERS_OF_5 = row([5], [1])
TRIBONACCI = row([1, 1, 1], [0, 0, 1])

# The expression, the number, and its period.
GREAT = [
    (COUNTING, 9973 * 10007, (0, 9973 * 10007)),
    (COUNTING, 9967 * 9973 * 10007 ** 2, (0, 9967 * 9973 * 10007 ** 2)),
    (COUNTING, prod(PRIMES[:30]), (0, prod(PRIMES[:30]))),
    (COUNTING, prod(PRIMES[-20:]), (0, prod(PRIMES[-20:]))),
    (COUNTING, prod(PRIMES[::20]), (0, prod(PRIMES[::20]))),
    (apart(COUNTING, 4, 1), prod(PRIMES[5:25]), (5, prod(PRIMES[5:25]))),
    (("put", (3, 1), COUNTING), 10 ** 30, (1, 10 ** 30)),
    (("put", (-1, 1), COUNTING), 10 ** 30, (0, 10 ** 30)),
    (POWERS_OF_5, 2 ** 64, (0, 2 ** 62)),
    (POWERS_OF_5, 2 ** 300, (0, 2 ** 298)),
    (("put", (5, 1), POWERS_OF_5), 2 ** 300, (1, 2 ** 298)),
    (POWERS_OF_5, 5 ** 20 * 2 ** 100, (20, 2 ** 98)),
    (row([4], [1]), 3 ** 80, (0, 3 ** 79)),
    (row([8], [1]), 7 ** 40, (0, 7 ** 39)),
    (row([10008], [1]), 10007 ** 25, (0, 10007 ** 24)),
    (FIBONACCI, 10 ** 60, (0, 15 * 10 ** 59)),
    (("product", COUNTING, row([4], [1])), 3 ** 50, (0, 3 ** 50)),
]


class SmallPeriodsTest(unittest.TestCase):
    def test_the_period_alone(self):
        rows = [
            NOTHING, ONES, ONLY_FIRST, FIBONACCI, COUNTING, TRIBONACCI, POWERS_OF_5, row([3, 6], [1, 1]),
            row([5, 7, 12], [2, -3, 1]), row([0, 0, 2], [1, 2, 3]), alone(4, 7), ("put", (5, 1), FIBONACCI),
        ]
        for e in rows:
            for m in (1, 2, 4, 6, 9, 12):
                ahead, length = period(e, m)
                pairs = [(a, p) for a in range(-1, ahead + 4) for p in range(-2, 3 * length + 2)]
                for pair in pairs if len(pairs) < 600 else pairs[::len(pairs) // 600]:
                    self.assertIs(period_holds(e, m, *pair), pair == (ahead, length), (e, m, pair))
                self.assertIs(period_holds(e, m, ahead, length), True)

    def test_by_hand(self):
        self.assertIs(period_holds(FIBONACCI, 10, 0, 60), True)
        for pair in ((1, 60), (0, 120), (0, 30), (0, 20), (0, 12), (-1, 60), (0, -60), (0, 0)):
            self.assertIs(period_holds(FIBONACCI, 10, *pair), False, pair)
        self.assertIs(period_holds(row([2], [1]), 12, 2, 2), True)
        for pair in ((0, 2), (1, 2), (3, 2), (2, 1), (2, 4), (10 ** 30, 2)):
            self.assertIs(period_holds(row([2], [1]), 12, *pair), False, pair)


class OffTest(unittest.TestCase):
    def wrong(self, ahead, length):
        """Return pairs beside the period."""
        return [
            (ahead + 1, length), (ahead - 1, length), (-ahead - 1, length), (10 ** 20, length),
            (ahead + length, length), (ahead, 2 * length), (ahead, 3 * length), (ahead, 10 * length),
            (ahead, 10 ** 25 * length), (ahead, length + 1), (ahead, length - 1), (ahead, 0), (ahead, -1),
            (ahead, -length), (0, 0), (-1, -1), (ahead, length + 10 ** 24), (10 ** 400, 10 ** 400 * length),
            (ahead, 10007 * length), (ahead, (10 ** 9 + 7) * length), (ahead, (10 ** 30 + 57) * length),
            (ahead, (2 ** 89 - 1) * 1000003 * length), (-10 ** 30, 10 ** 30),
        ]

    def test_small_periods(self):
        for e in (NOTHING, ONES, FIBONACCI, COUNTING, TRIBONACCI, POWERS_OF_5, ("put", (5, 1), FIBONACCI)):
            for m in (1, 2, 7, 10, 12, 10 ** 30 + 57):
                if m > 12 and e not in (NOTHING, ONES):
                    continue
                ahead, length = period(e, m)
                for pair in self.wrong(ahead, length):
                    self.assertIs(period_holds(e, m, *pair), False, (e, m, pair))
                if length % 2 == 0:
                    self.assertIs(period_holds(e, m, ahead, length // 2), False)

    def test_great_periods(self):
        for e, m, (ahead, length) in GREAT:
            self.assertIs(period_holds(e, m, ahead, length), True, m)
            for pair in self.wrong(ahead, length):
                self.assertIs(period_holds(e, m, *pair), False, (m, pair))

    def test_a_prime_more_or_less(self):
        for e, m, (ahead, length) in GREAT:
            found = [p for p in PRIMES if length % p == 0]
            for p in [*found[:5], *found[-2:]]:
                self.assertIs(period_holds(e, m, ahead, length // p), False, (m, p))
                self.assertIs(period_holds(e, m, ahead, length * p), False, (m, p))
                self.assertIs(period_holds(e, m, ahead, p), p == length, (m, p))
            self.assertIs(period_holds(e, m, ahead, 1), length == 1)

    def test_lengths_of_many_digits_with_hidden_primes(self):
        # All lengths are ones with which the row of ones comes round; none of these is the least.
        for length in (10 ** 20 + 39, 10 ** 30 + 57, (10 ** 20 + 39) * (10 ** 30 + 57), 10 ** 300 + 39):
            self.assertIs(period_holds(ONES, 7, 0, length), False)
            self.assertIs(period_holds(NOTHING, 7, 0, length), False)
            self.assertIs(period_holds(("weave", (ONES, NOTHING)), 7, 0, 2 * length), False)
            self.assertIs(period_holds(COUNTING, 10007, 0, 10007 * length), False)

    def test_numbers_without_small_primes(self):
        m = 2 ** 61 - 1
        self.assertIs(period_holds(COUNTING, m, 0, m), True)
        self.assertIs(period_holds(COUNTING, m, 0, 6 * m), False)
        self.assertIs(period_holds(COUNTING, m, 0, m - 1), False)
        m = 1000003 * 1000033
        self.assertIs(period_holds(COUNTING, m, 0, m), True)
        self.assertIs(period_holds(COUNTING, m, 0, 1000003), False)
        self.assertIs(period_holds(COUNTING, m, 0, m * 1000003), False)
        self.assertIs(period_holds(COUNTING, 1000003, 0, m), False)
        self.assertIs(period_holds(COUNTING, 1000003 ** 2, 0, 1000003 ** 2), True)
        self.assertIs(period_holds(COUNTING, 1000003 ** 2, 0, 1000003 ** 3), False)


if __name__ == "__main__":
    unittest.main()
