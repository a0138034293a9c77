"""Point 12: the order of a list, a recurrence for it, and whether it is forced."""

import unittest
from fractions import Fraction
from itertools import product
from random import Random

from rowsworn.rows import bound, values
from rowsworn.shortest import is_forced, order_of, recurrence_for, shortest
from tests.reference import pair, pairs
from tests.samples import FIBONACCI, HALVES, LATE, NOTHING, ONES, ONLY_FIRST, ROWS, SIX, made_from
from tests.solver import least, list_keeps, shortest_of

PRIMES = (2 ** 31 - 1, 2 ** 31 + 11)


def listed(*numbers):
    return list(pairs(*numbers))


class ListTestCase(unittest.TestCase):
    def check(self, numbers, order, forced):
        fractions = listed(*numbers)
        self.assertEqual(order_of(fractions), order, numbers)
        self.assertIs(is_forced(fractions), forced, numbers)
        recurrence = recurrence_for(fractions)
        self.assertIs(recurrence.__class__, tuple, numbers)
        self.assertEqual(len(recurrence), order, numbers)
        for p, q in recurrence:
            self.assertEqual(pair(Fraction(p, q)), (p, q), numbers)
        self.assertTrue(list_keeps([Fraction(x) for x in numbers], recurrence), numbers)
        self.assertEqual(fractions, listed(*numbers))
        return recurrence

    def check_against_solver(self, numbers):
        order, alone = least(numbers)
        recurrence = self.check(numbers, order, alone is not None)
        if alone is not None:
            self.assertEqual(recurrence, alone, numbers)


class ExamplesTest(ListTestCase):
    """Examples that were worked out by hand."""

    def test_the_empty_list(self):
        self.assertEqual(self.check([], 0, True), ())

    def test_lists_of_zeros(self):
        for count in range(1, 17):
            self.assertEqual(self.check([0] * count, 0, True), ())

    def test_zeros_and_a_last_item_that_is_not_0(self):
        for count in range(1, 17):
            for x in (1, "-2/3", 10 ** 30):
                self.check([0] * (count - 1) + [x], count, False)

    def test_zeros_behind_a_first_item(self):
        self.check([5], 1, False)
        self.assertEqual(self.check([5, 0], 1, True), pairs(0))
        self.assertEqual(self.check([5, 0, 0, 0], 1, True), pairs(0))

    def test_one_item(self):
        for x in (1, -1, "1/2", "-7/3", 10 ** 40):
            self.check([x], 1, False)

    def test_two_items(self):
        self.assertEqual(self.check([1, 1], 1, True), pairs(1))
        self.assertEqual(self.check([2, 3], 1, True), pairs("3/2"))
        self.assertEqual(self.check(["-1/2", "1/3"], 1, True), pairs("-2/3"))
        self.assertEqual(self.check([4, 0], 1, True), pairs(0))
        self.check([0, 4], 2, False)
        self.assertEqual(self.check([0, 0], 0, True), ())

    def test_three_items(self):
        self.check([1, 2, 4], 1, True)
        self.check([1, 2, 3], 2, False)
        self.check([0, 1, 1], 2, False)
        self.check([0, 0, 1], 3, False)
        self.check([1, 0, 0], 1, True)
        self.check([1, 0, 1], 2, False)

    def test_four_items(self):
        self.assertEqual(self.check([0, 1, 1, 2], 2, True), pairs(1, 1))
        self.assertEqual(self.check([1, 0, 1, 0], 2, True), pairs(0, 1))
        self.assertEqual(self.check([1, 0, 0, 1], 3, False)[2:], pairs(1))
        self.assertEqual(self.check([1, 2, 4, 9], 3, False)[2:] != pairs(0), True)
        self.check([0, 0, 1, 0], 3, False)

    def test_the_last_fraction_may_be_0(self):
        self.assertEqual(self.check([3, 1, 1, 1], 2, True), pairs(1, 0))
        self.assertEqual(self.check([3, 5, 1, 1, 1, 1], 3, True), pairs(1, 0, 0))

    def test_fibonacci_and_a_last_item_that_is_another(self):
        first = [0, 1, 1, 2, 3, 5, 8, 13]
        self.check(first, 2, True)
        self.check(first[:-1] + [14], 6, False)
        self.check(first[:5], 2, True)
        self.check(first[:4] + [4], 3, False)
        self.check(first[:3] + [3], 2, True)


class OtherWayTest(ListTestCase):
    """Against a solver that tries one number of fractions after another."""

    def test_all_lists_of_small_numbers(self):
        for count in range(7):
            for numbers in product((-1, 0, 1), repeat=count):
                self.check_against_solver(numbers)
        for count in range(5):
            for numbers in product((0, 1, 2, Fraction(1, 2), -3), repeat=count):
                self.check_against_solver(numbers)

    def test_all_lists_of_0_and_1_of_eight_and_nine_items(self):
        for count in (8, 9):
            for numbers in product((0, 1), repeat=count):
                self.check_against_solver(numbers)

    def test_numbers_that_large_primes_divide(self):
        low, high = PRIMES
        some = (0, 1, low, Fraction(1, low), low * high, Fraction(high, low ** 5))
        for count in range(4):
            for numbers in product(some, repeat=count):
                self.check_against_solver(numbers)
        for many in range(4, 12):
            self.check_against_solver([low ** n for n in range(many)])
            self.check_against_solver([low * high + n * n for n in range(many)])
            self.check_against_solver([1] * (many - 1) + [1 + low])
            self.check_against_solver([1] * (many - 2) + [1 + low * high, 3])

    def test_lists_of_up_to_sixteen_items(self):
        chance = Random(12)
        for count in range(17):
            for below in ((1,), (1, 1, 2, 3, 7), (10 ** 12 + 39, 1, 6)):
                for _ in range(4):
                    numbers = [Fraction(chance.randrange(-9, 10), chance.choice(below)) for _ in range(count)]
                    self.check_against_solver(numbers)
                    sparse = [x if chance.randrange(3) == 0 else 0 for x in numbers]
                    self.check_against_solver(sparse)

    def test_first_values_of_rows_and_a_last_item_that_is_another(self):
        chance = Random(30)
        for d in range(4):
            for below in ((1,), (1, 2, 5)):
                for count in range(d, 17):
                    factors = [Fraction(chance.randrange(-3, 4), chance.choice(below)) for _ in range(d)]
                    numbers = [Fraction(chance.randrange(-3, 4), chance.choice(below)) for _ in range(d)]
                    while len(numbers) < count:
                        latest = numbers[len(numbers) - d:][::-1]
                        numbers.append(sum((c * x for c, x in zip(factors, latest)), Fraction(0)))
                    self.check_against_solver(numbers)
                    if numbers:
                        self.check_against_solver(numbers[:-1] + [numbers[-1] + 1])
                        self.check_against_solver(numbers[:-1] + [numbers[-1] - Fraction(1, 10 ** 20)])


class RowsTest(unittest.TestCase):
    """The first values of a row whose bound is at most half of their number."""

    def test_the_shortest_recurrence_of_the_row(self):
        for e in (*ROWS.values(), *made_from(LATE, FIBONACCI), *made_from(ONLY_FIRST, HALVES)):
            for more in (0, 1, 5):
                found = values(e, 2 * bound(e) + more)
                self.assertIs(is_forced(found), True, e)
                self.assertEqual(recurrence_for(found), shortest(e), e)
                self.assertEqual(recurrence_for(found), shortest_of(e), e)
                self.assertEqual(order_of(found), len(shortest_of(e)), e)

    def test_fewer_values_than_that_may_not_be_forced(self):
        for e in (ONES, HALVES, FIBONACCI, SIX):
            found = values(e, 2 * bound(e) - 1)
            self.assertIs(is_forced(found), False, e)
        self.assertIs(is_forced(values(NOTHING, 0)), True)


if __name__ == "__main__":
    unittest.main()
