"""Point 10: when a row is whole, and the least place at which it is not."""

import unittest

from rowsworn.whole import first_part
from tests.reference import least_part, row
from tests.samples import (
    COUNTING, FIBONACCI, HALVES, LARGE, LATE, NOTHING, ONES, SIX, WHOLE, alone, apart, deep, made_from,
)


class FirstPartTest(unittest.TestCase):
    def test_whole_rows(self):
        for name, e in WHOLE.items():
            self.assertIsNone(least_part(e, 30), name)
            self.assertIsNone(first_part(e), name)

    def test_the_bound_0(self):
        for e in (
            NOTHING, ("product", NOTHING, HALVES), ("weave", (NOTHING, NOTHING)), ("times", (1, 2), NOTHING),
            ("product", deep(12), NOTHING), ("shift", 10 ** 9, NOTHING), ("every", 10 ** 9, 10 ** 9, NOTHING),
        ):
            self.assertIsNone(first_part(e), e)

    def test_parts_at_the_place_0(self):
        for e in (HALVES, SIX, row([1], ["1/2"]), row([0], ["1/2"]), row([0, 0], ["-1/3", 1]), ("put", (1, 9), ONES)):
            self.assertEqual(first_part(e), 0)

    def test_rows_that_begin_whole(self):
        self.assertEqual(first_part(("put", (5, 1), HALVES)), 1)
        self.assertEqual(first_part(row([1, "1/2"], [0, 1])), 3)
        self.assertEqual(first_part(("sum", FIBONACCI, ("put", (0, 1), HALVES))), 1)
        self.assertEqual(first_part(("times", (1, 2), FIBONACCI)), 1)
        self.assertEqual(first_part(("times", (1, 2), ("shift", 3, FIBONACCI))), 1)
        self.assertEqual(first_part(("weave", (ONES, ONES, HALVES))), 2)

    def test_a_power_times_powers_of_a_part(self):
        for prime in (2, 3, 10 ** 9 + 7):
            for k in (0, 1, 2, 5, 17, 64, 300):
                powers = row([f"1/{prime}"], [1])
                self.assertEqual(first_part(("times", (prime ** k, 1), powers)), k + 1)
                self.assertEqual(first_part(("times", (-5 * prime ** k, 1), powers)), k + 1)
                self.assertEqual(first_part(("sum", FIBONACCI, ("times", (prime ** k, 1), powers))), k + 1)

    def test_a_power_times_places_times_powers_of_a_half(self):
        e = ("times", (2 ** 20, 1), ("product", COUNTING, row(["1/2"], [1])))
        self.assertEqual(first_part(e), least_part(e, 50))
        self.assertEqual(first_part(e), 21)

    def test_one_value_of_a_whole_row_changed(self):
        for name, e in WHOLE.items():
            for place in (0, 1, 2, 7, 33):
                for x in ("1/2", "-1/3", "7/3"):
                    self.assertEqual(first_part(apart(e, place, x)), place, name)
                self.assertIsNone(first_part(apart(e, place, -5)), name)

    def test_one_value_changed_at_a_late_place(self):
        for place in (60, 150):
            self.assertEqual(first_part(apart(FIBONACCI, place, "1/2")), place)
            self.assertEqual(first_part(("sum", alone(place, "1/3"), alone(place + 20, "1/2"))), place)

    def test_two_parts_that_are_whole_together(self):
        halves = ("sum", alone(9, "1/2"), alone(9, "-3/2"))
        self.assertIsNone(first_part(("sum", FIBONACCI, halves)))
        self.assertEqual(first_part(("sum", ("sum", alone(4, "1/2"), halves), alone(6, "1/5"))), 4)

    def test_joined_expressions_of_all_kinds(self):
        rows = [*WHOLE.values(), HALVES, LATE, SIX, LARGE, row([1], ["1/2"]), ("put", (8, 1), row(["1/2"], [4]))]
        for i, e in enumerate(rows):
            for joined in made_from(e, rows[(i * 7 + 3) % len(rows)]):
                place = first_part(joined)
                self.assertEqual(place, least_part(joined, 40 if place is None else place + 1), joined)

    def test_expressions_within_others(self):
        twice = row(["1/2"], [2 ** 6])
        for within in made_from(twice, FIBONACCI):
            for joined in made_from(within, COUNTING):
                place = first_part(joined)
                self.assertEqual(place, least_part(joined, 25 if place is None else place + 1), joined)

    def test_deep_expressions(self):
        for levels in range(1, 13):
            e = deep(levels)
            place = first_part(e)
            self.assertEqual(place, least_part(e, 8 if place is None else place + 1))

    def test_numbers_of_many_digits(self):
        large = 7 ** 400
        self.assertIsNone(first_part(row([large, -large], [large, 1])))
        self.assertEqual(first_part(row([large, f"1/{large}"], [large, large])), 4)
        self.assertEqual(first_part(("times", (1, large), row([7], [1]))), 0)
        self.assertEqual(first_part(("shift", 350, ("times", (1, large), row([7], [1])))), 0)
        self.assertIsNone(first_part(("shift", 400, ("times", (1, large), row([7], [1])))))


if __name__ == "__main__":
    unittest.main()
