"""The integers modulo a large number with which recurrences are found."""

import unittest
from fractions import Fraction
from math import gcd, isqrt

from rowsworn.finding import find_recurrence, list_keeps, over_one_divisor
from rowsworn.remainders import inverse, near_fraction
from tests.reference import pair, pairs


class RemaindersTest(unittest.TestCase):
    def test_inverse(self):
        for m in (2, 3, 9, 10, 49, 97, 343):
            for x in range(-m, 2 * m):
                if gcd(x, m) == 1:
                    y = inverse(x, m)
                    self.assertTrue(0 <= y < m, (x, m))
                    self.assertEqual(x * y % m, 1, (x, m))
        m = (2 ** 31 - 1) ** 8
        self.assertEqual(inverse(10 ** 50, m) * 10 ** 50 % m, 1)

    def test_near_fraction(self):
        for m in (3, 7, 25, 101, 343, 2401):
            limit = isqrt(m // 2)
            for q in range(1, limit + 1):
                if gcd(q, m) > 1:
                    continue
                for p in range(-limit, limit + 1):
                    x = p * inverse(q, m)
                    self.assertEqual(near_fraction(x, m), pair(Fraction(p, q)), (p, q, m))

    def test_near_fraction_of_all_remainders(self):
        for m in (2, 3, 10, 49, 97):
            for x in range(m):
                p, q = near_fraction(x, m)
                self.assertEqual(pair(Fraction(p, q)), (p, q))


class FindingTest(unittest.TestCase):
    def test_over_one_divisor(self):
        self.assertEqual(over_one_divisor([]), ([], 1))
        self.assertEqual(over_one_divisor(pairs("1/2", "-2/3", 5)), ([3, -4, 30], 6))

    def test_list_keeps(self):
        self.assertIs(list_keeps(list(pairs(1, 2, 4)), pairs(2)), True)
        self.assertIs(list_keeps(list(pairs(1, 2, 5)), pairs(2)), False)
        self.assertIs(list_keeps(list(pairs(1, 2, 5)), pairs(2, 1)), True)
        self.assertIs(list_keeps(list(pairs(1, 2, 5)), pairs(7, 7, 7)), True)
        self.assertIs(list_keeps(list(pairs(1, 2, 5)), pairs(7, 7, 7, 7)), True)
        self.assertIs(list_keeps(list(pairs(0, 0)), ()), True)
        self.assertIs(list_keeps(list(pairs(0, 1)), ()), False)

    def test_a_recurrence_with_long_numbers(self):
        for digits in (5, 19, 40, 150):
            x = pair(f"{10 ** digits + 1}/{10 ** digits - 3}")
            found = list(pairs("2/3"))
            for _ in range(5):
                found.append(pair(Fraction(*found[-1]) * Fraction(*x)))
            self.assertEqual(find_recurrence(found), (x,))


if __name__ == "__main__":
    unittest.main()
