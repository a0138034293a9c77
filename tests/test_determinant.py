"""Point 8: determinants of tables."""

import unittest

from rowsworn.keeping import determinant
from rowsworn.rows import bound
from tests.reference import pair, row
from tests.samples import (
    FIBONACCI, HALVES, LARGE, LATE, NOTHING, ONES, ONLY_FIRST, ROWS, SIX, alone, made_from,
)
from tests.solver import by_first_row, by_permutations, is_singular, shortest_of, table


class ExamplesTest(unittest.TestCase):
    """Examples that were worked out by hand."""

    def test_order_0(self):
        for e in (*ROWS.values(), ("sums", NOTHING), ("product", NOTHING, SIX)):
            self.assertEqual(determinant(e, 0), (1, 1), e)

    def test_order_1_is_the_first_value(self):
        self.assertEqual(determinant(HALVES, 1), (3, 4))
        self.assertEqual(determinant(FIBONACCI, 1), (0, 1))
        self.assertEqual(determinant(LATE, 1), (-1, 6))

    def test_fibonacci(self):
        # The table is 0 1 / 1 1; from the order 3 on a row is the sum of the two before it.
        self.assertEqual(determinant(FIBONACCI, 2), (-1, 1))
        self.assertEqual(determinant(FIBONACCI, 3), (0, 1))

    def test_powers(self):
        # 2^n + 3^n: the table of order 2 is 2 5 / 5 13.
        e = ("sum", row([2], [1]), row([3], [1]))
        self.assertEqual(determinant(e, 2), (1, 1))
        self.assertEqual(determinant(e, 3), (0, 1))

    def test_fractions_that_are_not_whole(self):
        # The table is 1/2 1/3 / 1/3 1/4.
        self.assertEqual(determinant(row([1, 1, 1], ["1/2", "1/3", "1/4"]), 2), (1, 72))
        # The table is 1/2 -1/3 / -1/3 1/6.
        self.assertEqual(determinant(row([1, 1], ["1/2", "-1/3"]), 2), (-1, 36))

    def test_rows_must_be_exchanged(self):
        # 0 0 1 / 0 1 1 / 1 1 2
        self.assertEqual(determinant(row([1, 1, 0], [0, 0, 1]), 3), (-1, 1))
        # 0 1 / 1 0
        self.assertEqual(determinant(("weave", (NOTHING, ONES)), 2), (-1, 1))
        # 0 1 0 / 1 0 0 / 0 0 2
        self.assertEqual(determinant(row([0, 0, 0, 0, 1], [0, 1, 0, 0, 2]), 3), (-2, 1))

    def test_a_row_that_is_0_but_at_one_place(self):
        # The table is 0 but at the places where i + j is the place: all exchanged once.
        for place in range(12):
            d = place + 1
            sign = -1 if d * (d - 1) // 2 % 2 == 1 else 1
            e = alone(place, "-2/3")
            self.assertEqual(determinant(e, d), pair(f"{sign * (-2) ** d}/{3 ** d}"), place)
            for other in (*range(1, d), d + 1, d + 2):
                self.assertEqual(determinant(e, other), (0, 1), (place, other))

    def test_orders_beyond_the_bound(self):
        for e in ROWS.values():
            for more in (1, 2, 5, 1000):
                self.assertEqual(determinant(e, bound(e) + more), (0, 1), e)


class OtherWaysTest(unittest.TestCase):
    def check(self, e, d):
        rows = table(e, d)
        expected = by_permutations(rows) if d < 5 else by_first_row(rows)
        self.assertEqual(determinant(e, d), pair(expected), (e, d))

    def test_told_rows(self):
        for e in ROWS.values():
            for d in range(8):
                self.check(e, d)

    def test_joined_rows(self):
        for e, f in ((FIBONACCI, HALVES), (LATE, ONES), (ONLY_FIRST, LATE), (SIX, LARGE), (NOTHING, SIX)):
            for made in made_from(e, f):
                for d in range(6):
                    self.check(made, d)

    def test_tables_whose_first_entries_are_0(self):
        for zeros in range(1, 5):
            for first in (["5/2", 1, 0, 7], [1, 0, 0, "-1/3"], [-2, "1/5", 4, 0]):
                e = row([1, 0, "-1/2", 2] + [0] * zeros, [0] * zeros + first)
                for d in range(8):
                    self.check(e, d)

    def test_all_rows_of_few_small_values(self):
        for many in range(3 ** 5):
            first = [many // 3 ** i % 3 - 1 for i in range(5)]
            e = row([0, 0, 0, 0, 1], first)
            for d in range(6):
                self.check(e, d)

    def test_it_is_not_0_exactly_at_the_shortest_order_or_a_shorter_one(self):
        for made in made_from(LATE, FIBONACCI):
            order = len(shortest_of(made))
            self.assertNotEqual(determinant(made, order), (0, 1), made)
            for d in range(bound(made) + 3):
                self.assertEqual(determinant(made, d) == (0, 1), is_singular(table(made, d)), (made, d))
                if d > order:
                    self.assertEqual(determinant(made, d), (0, 1), (made, d))


if __name__ == "__main__":
    unittest.main()
