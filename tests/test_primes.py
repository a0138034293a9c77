import unittest
from math import prod

from rowsworn.primes import PROVED_BELOW, _is_prime, least_prime_of, next_prime, primes_up_to, without


def primes_of(n):
    """Return the primes that divide n, ascending."""
    return [p for p in range(2, n + 1) if n % p == 0 and all(p % d for d in range(2, p))]


class PrimesTest(unittest.TestCase):
    def test_next_prime(self):
        found = []
        n = -5
        while n < 100:
            n = next_prime(n)
            found.append(n)
        self.assertEqual(found, [n for n in range(2, 102) if all(n % d for d in range(2, n))])
        self.assertEqual(next_prime(2 ** 31 - 1), 2 ** 31 + 11)

    def test_is_prime(self):
        for n in range(2, 3000):
            self.assertIs(_is_prime(n), all(n % d for d in range(2, n)), n)

    def test_numbers_that_pass_the_test_of_many_witnesses(self):
        # The least ones that pass with the first 1, 2, 3, 4, 5, 6, 8, 11 and 12 primes.
        for n in (
            2047, 1373653, 25326001, 3215031751, 2152302898747, 3474749660383, 341550071728321,
            3825123056546413051, 318665857834031151167461,
        ):
            self.assertIs(_is_prime(n), False, n)

    def test_large_primes(self):
        for n in (10 ** 9 + 7, 2 ** 61 - 1, 10 ** 18 + 9, 2 ** 80 - 65):
            self.assertLess(n, PROVED_BELOW)
            self.assertIs(_is_prime(n), True, n)
            self.assertEqual(least_prime_of(n, 2), n)

    def test_least_prime_of(self):
        for n in range(2, 500):
            least = primes_of(n)[0]
            for start in range(2, least + 1):
                self.assertEqual(least_prime_of(n, start), least)
        self.assertEqual(least_prime_of(10007 * 10009 * (10 ** 30 + 57), 10001), 10007)

    def test_primes_up_to(self):
        for n in range(1, 400):
            for limit in (1, 2, 3, 7, 20, 400):
                low = [p for p in primes_of(n) if p <= limit]
                rest = n
                for p in low:
                    rest = without(p, rest)
                self.assertEqual(primes_up_to(limit, n), (low, rest), (limit, n))

    def test_primes_up_to_of_a_great_number(self):
        self.assertEqual(primes_up_to(100, 97 ** 50 * 101 ** 40), ([97], 101 ** 40))
        self.assertEqual(primes_up_to(101, 97 ** 50 * 101 ** 40), ([97, 101], 1))

    def test_without(self):
        self.assertEqual(without(2, 2 ** 70 * 15), 15)
        self.assertEqual(without(7, 15), 15)
        self.assertEqual(prod((without(3, 1), without(5, 5))), 1)


if __name__ == "__main__":
    unittest.main()
