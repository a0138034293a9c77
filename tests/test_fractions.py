import unittest
from fractions import Fraction
from math import gcd

from rowsworn.errors import BadText, NoFraction, NotWhole
from rowsworn.fractions import fraction, minus, over, plus, times
from tests.reference import pair
from tests.samples import THIRTY, THIRTY_MORE

NUMBERS = [0, 1, -1, 2, -4, 6, 15, -35, THIRTY, -THIRTY, THIRTY_MORE, -6 * THIRTY_MORE]

FRACTIONS = [pair(Fraction(text)) for text in (
    "0", "1", "-1", "1/2", "-1/2", "1/6", "-5/6", "7", "-12", "10/21",
    f"{THIRTY}/{THIRTY_MORE}", f"-{THIRTY_MORE}/{THIRTY}", f"{THIRTY}", f"-1/{THIRTY}",
)]


class FractionTest(unittest.TestCase):
    def test_examples(self):
        self.assertEqual(fraction(6, 4), (3, 2))
        self.assertEqual(fraction(-6, 4), (-3, 2))
        self.assertEqual(fraction(6, -4), (-3, 2))
        self.assertEqual(fraction(-6, -4), (3, 2))
        self.assertEqual(fraction(8, 4), (2, 1))
        self.assertEqual(fraction(0, 5), (0, 1))
        self.assertEqual(fraction(0, -THIRTY), (0, 1))
        self.assertEqual(fraction(-6 * THIRTY, 4 * THIRTY), (-3, 2))

    def test_lowest_terms_and_the_sign_for_all_pairs(self):
        for p in NUMBERS:
            for q in NUMBERS:
                if q == 0:
                    continue
                got = fraction(p, q)
                self.assertIsInstance(got, tuple)
                over_, under = got
                self.assertGreater(under, 0, (p, q))
                self.assertEqual(gcd(over_, under), 1, (p, q))
                self.assertEqual(over_ * q, p * under, (p, q))

    def test_no_fraction_if_the_divisor_is_0(self):
        for p in NUMBERS:
            with self.assertRaises(NoFraction) as caught:
                fraction(p, 0)
            self.assertNotIsInstance(caught.exception, (NotWhole, BadText))


class ReckoningTest(unittest.TestCase):
    def test_examples_that_are_brought_to_lowest_terms(self):
        self.assertEqual(plus((1, 6), (1, 3)), (1, 2))
        self.assertEqual(plus((1, 2), (-1, 2)), (0, 1))
        self.assertEqual(plus((1, 2), (1, 2)), (1, 1))
        self.assertEqual(minus((1, 6), (2, 3)), (-1, 2))
        self.assertEqual(minus((5, 7), (5, 7)), (0, 1))
        self.assertEqual(times((2, 3), (3, 4)), (1, 2))
        self.assertEqual(times((-2, 3), (-3, 2)), (1, 1))
        self.assertEqual(times((0, 1), (-3, 4)), (0, 1))
        self.assertEqual(over((2, 3), (-4, 3)), (-1, 2))
        self.assertEqual(over((-2, 3), (-2, 3)), (1, 1))
        self.assertEqual(over((0, 1), (-3, 4)), (0, 1))

    def test_all_pairs_against_pythons_own_fractions(self):
        for x in FRACTIONS:
            for y in FRACTIONS:
                a, b = Fraction(*x), Fraction(*y)
                self.assertEqual(plus(x, y), pair(a + b), (x, y))
                self.assertEqual(minus(x, y), pair(a - b), (x, y))
                self.assertEqual(times(x, y), pair(a * b), (x, y))
                if b != 0:
                    self.assertEqual(over(x, y), pair(a / b), (x, y))

    def test_the_results_are_tuples(self):
        for reckon in (plus, minus, times, over):
            self.assertIsInstance(reckon((1, 2), (1, 3)), tuple)

    def test_over_0_raises_no_fraction(self):
        for x in FRACTIONS:
            with self.assertRaises(NoFraction):
                over(x, (0, 1))


if __name__ == "__main__":
    unittest.main()
