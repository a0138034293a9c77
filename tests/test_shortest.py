"""Point 8: the shortest recurrence of a row."""

import unittest
from fractions import Fraction

from rowsworn.keeping import determinant, is_shortest, keeps
from rowsworn.rows import bound
from rowsworn.shortest import shortest
from tests.reference import pair, pairs, row
from tests.samples import (
    FIBONACCI, HALVES, LARGE, LATE, NOTHING, ONES, ONLY_FIRST, ROWS, SIX, alone, apart, deep, made_from,
)
from tests.solver import first_values, is_singular, list_keeps, longer, of_roots, shortest_of, table


def powers(*roots):
    """Return told rows of the powers of each root, times 1, -2, 3 .., in a sum."""
    parts = [row([x], [(-1) ** i * (i + 1)]) for i, x in enumerate(roots)]
    e = parts[0]
    for part in parts[1:]:
        e = ("sum", e, part)
    return e


class ShortestTestCase(unittest.TestCase):
    def check(self, e, expected):
        self.assertEqual(shortest(e), expected, e)
        self.assertIs(is_shortest(e, expected), True, e)
        for x in (0, 1, "1/2"):
            self.assertIs(is_shortest(e, longer(expected, x)), False, e)
        if expected:
            self.assertIs(is_shortest(e, expected[:-1]), False, e)
            self.assertIs(is_shortest(e, ()), False, e)
            p, q = expected[-1]
            self.assertIs(is_shortest(e, (*expected[:-1], pair(f"{p + q}/{q}"))), False, e)


class ExamplesTest(ShortestTestCase):
    """Examples that were worked out by hand."""

    def test_told_rows_that_are_told_by_the_shortest_one(self):
        for e in (NOTHING, ONES, HALVES, ONLY_FIRST, FIBONACCI, LATE, LARGE, SIX):
            self.check(e, e[1])

    def test_told_rows_that_are_told_by_a_longer_one(self):
        self.check(row([3, -2], [1, 1]), pairs(1))
        self.check(row([3, -2], [1, 2]), pairs(2))
        self.check(row([3, -2], [0, 1]), pairs(3, -2))
        self.check(row([2, 0, -1], [0, 1, 1]), pairs(1, 1))
        self.check(row([1, 1, 0], [0, 1, 1]), pairs(1, 1))
        self.check(row([1, 1, 0], [1, 1, 1]), pairs(1, 1, 0))
        self.check(row([0, "1/4"], ["2/3", "-1/3"]), pairs("-1/2"))
        self.check(row([0, 0, 0, 1], [1, 2, 1, 2]), pairs(0, 1))

    def test_the_row_of_zeros(self):
        self.check(NOTHING, ())
        self.check(row([1, 1], [0, 0]), ())
        self.check(row([0, 0, 0], [0, 0, 0]), ())
        self.check(("times", (0, 1), SIX), ())
        self.check(("product", SIX, NOTHING), ())
        self.check(("fold", ("times", (0, 1), SIX), LATE), ())
        self.check(("sum", SIX, ("times", (-1, 1), SIX)), ())
        self.check(("shift", 1, ONLY_FIRST), ())
        self.check(("put", (0, 1), ("sums", NOTHING)), ())
        self.check(("every", 2, 1, ("weave", (ONES, NOTHING))), ())
        self.check(("product", ("weave", (ONES, NOTHING)), ("weave", (NOTHING, ONES))), ())

    def test_a_0_at_the_end(self):
        self.check(("put", (7, 1), ONES), pairs(1, 0))
        self.check(("put", (1, 1), ONES), pairs(1))
        self.check(("put", (5, 1), ("put", (7, 1), ONES)), pairs(1, 0, 0))
        self.check(("put", (1, 3), NOTHING), pairs(0))
        self.check(("put", (0, 1), FIBONACCI), pairs(1, 1, 0))
        self.check(("put", (1, 1), FIBONACCI), pairs(1, 1))
        self.check(("put", (0, 1), ("put", (0, 1), ("put", (0, 1), ONLY_FIRST))), pairs(0, 0, 0, 0))
        for place in range(10):
            self.check(alone(place, "3/8"), pairs(*[0] * (place + 1)))
            self.check(apart(ONES, place), pairs(1, *[0] * (place + 1)))

    def test_joined_rows(self):
        self.check(("sum", ONES, HALVES), pairs("1/2", "1/2"))
        self.check(("sum", ONES, ONES), pairs(1))
        self.check(("product", FIBONACCI, FIBONACCI), pairs(2, 2, -1))
        self.check(("product", HALVES, HALVES), pairs("1/4"))
        self.check(("fold", ONES, ONES), pairs(2, -1))
        self.check(("fold", ONES, row([0], [2])), pairs(1))
        self.check(("fold", FIBONACCI, row([0, 0, 0], [1, -1, -1])), pairs(0, 0))
        self.check(("times", (5, 3), FIBONACCI), pairs(1, 1))
        self.check(("shift", 100, FIBONACCI), pairs(1, 1))
        self.check(("shift", 2, ("put", (5, 1), ("put", (7, 1), ONES))), pairs(1))
        self.check(("sums", FIBONACCI), pairs(2, 0, -1))
        self.check(("sums", ONLY_FIRST), pairs(1))
        self.check(("every", 2, 0, FIBONACCI), pairs(3, -1))
        self.check(("every", 3, 1, FIBONACCI), pairs(4, 1))
        self.check(("every", 10, 3, FIBONACCI), pairs(123, -1))
        self.check(("weave", (ONES, NOTHING)), pairs(0, 1))
        self.check(("weave", (ONES, ONES)), pairs(1))
        self.check(("weave", (ONES, ONES, NOTHING)), pairs(0, 0, 1))
        self.check(("weave", (FIBONACCI, FIBONACCI)), pairs(0, 1, 0, 1))
        self.check(("weave", tuple(("every", 3, r, FIBONACCI) for r in range(3))), pairs(1, 1))

    def test_a_shorter_recurrence_that_is_not_kept(self):
        self.assertIs(is_shortest(FIBONACCI, pairs(1)), False)
        self.assertIs(is_shortest(FIBONACCI, pairs(1, 2)), False)
        self.assertIs(is_shortest(ONLY_FIRST, ()), False)
        self.assertIs(is_shortest(apart(ONES, 40), pairs(1)), False)
        self.assertIs(is_shortest(apart(NOTHING, 40), ()), False)

    def test_a_kept_recurrence_that_is_too_long(self):
        self.assertIs(is_shortest(FIBONACCI, pairs(2, 0, -1)), False)
        self.assertIs(is_shortest(FIBONACCI, pairs(1, 1, 0)), False)
        self.assertIs(is_shortest(NOTHING, pairs(0)), False)
        self.assertIs(is_shortest(NOTHING, pairs(1, 2, 3)), False)
        self.assertIs(is_shortest(ONLY_FIRST, pairs(0, 0)), False)
        self.assertIs(is_shortest(ONLY_FIRST, pairs(5, 0)), False)


class PowersTest(ShortestTestCase):
    def test_sums_of_powers_of_different_fractions(self):
        for roots in (
            ["1/2"], [2, 3], [2, "-1/2"], [1, -1, "3/5"], ["1/3", "2/3", "4/3", -7],
            [0, 2, "-5/2"], ["1/10", 10, 100, "-1/100", 0, 1], list(range(-4, 5)),
        ):
            self.check(powers(*roots), of_roots(*roots))

    def test_powers_that_take_each_other_away(self):
        e = powers(2, "1/3", -4)
        self.check(("sum", e, row(["1/3"], [2])), of_roots(2, -4))
        self.check(("sum", e, row([2], [-1])), of_roots("1/3", -4))

    def test_products_of_powers(self):
        self.check(("product", powers(2, 3), powers(5, "1/2")), of_roots(10, 1, 15, "3/2"))
        self.check(("product", powers(2, 3), powers(3, 2)), of_roots(4, 6, 9))
        self.check(("product", powers(1, 2, 4), powers(1, 2, 4)), of_roots(1, 2, 4, 8, 16))

    def test_folds_of_powers(self):
        self.check(("fold", powers(2, 3), powers(3, 5)), of_roots(2, 3, 3, 5))

    def test_powers_of_n(self):
        counting = row([2, -1], [0, 1])
        e = counting
        for degree in range(2, 7):
            e = ("product", e, counting)
            self.check(e, of_roots(*[1] * (degree + 1)))

    def test_a_product_of_twelve_rows(self):
        e = FIBONACCI
        for _ in range(10):
            e = ("product", e, powers(1, 2))
        self.assertEqual(bound(e), 2048)
        self.assertEqual(len(shortest(e)), 22)
        self.assertIs(is_shortest(e, shortest(e)), True)

    def test_fractions_of_thirty_digits(self):
        first, second = Fraction(*LARGE[1][0]), Fraction(*LARGE[1][1])
        e = powers(first, second, -first)
        self.check(e, of_roots(first, second, -first))
        self.check(("product", e, e), of_roots(
            first ** 2, second ** 2, first * second, -first ** 2, -first * second,
        ))

    def test_numbers_that_large_primes_divide(self):
        # A row may be 0, or all of a part may be, modulo any prime.
        for prime in (2 ** 31 - 1, 2 ** 31 + 11, 2 ** 61 - 1, (2 ** 31 - 1) * (2 ** 31 + 11)):
            self.check(row([1, 1], [0, prime]), pairs(1, 1))
            self.check(row([1, prime], [1, 1]), pairs(1, prime))
            self.check(row([1, f"1/{prime}"], [1, 1]), pairs(1, f"1/{prime}"))
            self.check(row([1, 1], [f"1/{prime}", prime]), pairs(1, 1))
            self.check(powers(1, prime + 1, f"1/{prime}"), of_roots(1, prime + 1, f"1/{prime}"))


class OtherWayTest(ShortestTestCase):
    """Against a solver that tries one number of fractions after another."""

    def test_told_rows(self):
        for e in ROWS.values():
            self.check(e, shortest_of(e))

    def test_all_told_rows_of_small_whole_numbers(self):
        for many in range(3 ** 6):
            numbers = [many // 3 ** i % 3 - 1 for i in range(6)]
            e = row(numbers[:3], numbers[3:])
            expected = shortest_of(e)
            self.assertEqual(shortest(e), expected, e)
            self.assertEqual(is_shortest(e, e[1]), len(expected) == 3, e)

    def test_joined_rows_of_all_kinds(self):
        for e, f in ((FIBONACCI, HALVES), (LATE, ONES), (ONLY_FIRST, FIBONACCI), (NOTHING, LATE)):
            for made in made_from(e, f):
                self.check(made, shortest_of(made))

    def test_two_levels_of_all_kinds(self):
        for within in made_from(FIBONACCI, HALVES):
            for made in made_from(within, ONLY_FIRST):
                expected = shortest_of(made)
                self.assertEqual(shortest(made), expected, made)
                self.assertIs(is_shortest(made, expected), True, made)

    def test_deep_rows(self):
        for levels in range(1, 14):
            self.check(deep(levels), shortest_of(deep(levels)))


class WordsOfTheDocumentTest(unittest.TestCase):
    """Rows that are too large for the solver: the recurrence is kept, its table not singular."""

    def check(self, e):
        recurrence = shortest(e)
        d = len(recurrence)
        self.assertIs(recurrence.__class__, tuple)
        self.assertLessEqual(d, bound(e))
        self.assertTrue(list_keeps(first_values(e, bound(e) + d), recurrence), e)
        self.assertFalse(is_singular(table(e, d)), e)
        self.assertNotEqual(determinant(e, d), (0, 1), e)
        self.assertIs(keeps(e, recurrence), True, e)
        self.assertIs(is_shortest(e, recurrence), True, e)

    def test_joined_rows(self):
        for e, f in ((LATE, SIX), (SIX, FIBONACCI), (FIBONACCI, LARGE)):
            for made in made_from(e, f):
                self.check(made)

    def test_a_long_recurrence(self):
        self.check(row([n % 5 - 2 for n in range(40)], [n * n % 7 for n in range(40)]))
        self.check(row([f"{n % 5 - 2}/{n % 3 + 1}" for n in range(30)], [n * n % 7 for n in range(30)]))


if __name__ == "__main__":
    unittest.main()
