import unittest

from rowsworn.rows import value, values
from tests.reference import pairs, row, told_pairs
from tests.samples import COUNTING, FIBONACCI, HALVES, LATE, NOTHING, ONES, ROWS, deep, made_from


def whole(*numbers):
    return list(pairs(*numbers))


class EachKindTest(unittest.TestCase):
    """Examples that were worked out by hand."""

    def test_sum(self):
        self.assertEqual(values(("sum", COUNTING, FIBONACCI), 6), whole(0, 2, 3, 5, 7, 10))

    def test_sum_in_lowest_terms(self):
        half = row([1], ["1/2"])
        self.assertEqual(values(("sum", half, half), 3), whole(1, 1, 1))

    def test_product(self):
        self.assertEqual(values(("product", COUNTING, COUNTING), 6), whole(0, 1, 4, 9, 16, 25))
        self.assertEqual(values(("product", COUNTING, NOTHING), 3), whole(0, 0, 0))

    def test_fold(self):
        self.assertEqual(values(("fold", ONES, ONES), 5), whole(1, 2, 3, 4, 5))
        first = row([0], [2])
        self.assertEqual(values(("fold", first, FIBONACCI), 5), whole(0, 2, 2, 4, 6))
        self.assertEqual(values(("fold", NOTHING, ONES), 3), whole(0, 0, 0))

    def test_fold_of_two_different_rows(self):
        powers = row([2], [1])
        self.assertEqual(values(("fold", powers, COUNTING), 5), whole(0, 1, 4, 11, 26))

    def test_times(self):
        self.assertEqual(values(("times", (-1, 2), COUNTING), 4), whole(0, "-1/2", -1, "-3/2"))

    def test_times_by_0(self):
        self.assertEqual(values(("times", (0, 1), HALVES), 4), whole(0, 0, 0, 0))

    def test_shift(self):
        self.assertEqual(values(("shift", 3, FIBONACCI), 4), whole(2, 3, 5, 8))

    def test_the_bound_0_with_large_numbers_within(self):
        large = 10 ** 30
        for e in (("shift", large, NOTHING), ("every", large, large, NOTHING), ("product", NOTHING, ("shift", large, ONES))):
            self.assertEqual(values(e, 3), whole(0, 0, 0))
            self.assertEqual(values(("sum", ONES, ("times", (1, 2), e)), 2), whole(1, 1))
            self.assertEqual(values(e, 0), [])

    def test_shift_by_0(self):
        self.assertEqual(values(("shift", 0, FIBONACCI), 5), values(FIBONACCI, 5))

    def test_shift_by_more_than_the_bound(self):
        self.assertEqual(values(("shift", 10, FIBONACCI), 3), whole(55, 89, 144))
        self.assertEqual(values(("shift", 5, row([0], [5])), 3), whole(0, 0, 0))

    def test_put(self):
        self.assertEqual(values(("put", (7, 3), COUNTING), 5), whole("7/3", 0, 1, 2, 3))
        self.assertEqual(values(("put", (7, 3), NOTHING), 3), whole("7/3", 0, 0))

    def test_sums(self):
        self.assertEqual(values(("sums", COUNTING), 6), whole(0, 1, 3, 6, 10, 15))
        self.assertEqual(values(("sums", row([0], ["1/2"])), 3), whole("1/2", "1/2", "1/2"))

    def test_every(self):
        self.assertEqual(values(("every", 3, 1, COUNTING), 4), whole(1, 4, 7, 10))

    def test_every_first_place(self):
        self.assertEqual(values(("every", 1, 0, FIBONACCI), 6), values(FIBONACCI, 6))

    def test_every_with_r_of_at_least_k(self):
        self.assertEqual(values(("every", 2, 2, COUNTING), 4), whole(2, 4, 6, 8))
        self.assertEqual(values(("every", 3, 7, COUNTING), 4), whole(7, 10, 13, 16))
        self.assertEqual(values(("every", 1, 5, COUNTING), 3), whole(5, 6, 7))

    def test_weave_of_one_row(self):
        self.assertEqual(values(("weave", (FIBONACCI,)), 6), values(FIBONACCI, 6))

    def test_weave_of_rows_of_different_kinds(self):
        e = ("weave", (COUNTING, NOTHING, ("sums", ONES)))
        expected = whole(0, 0, 1, 1, 0, 2, 2, 0, 3, 3, 0)
        for count in range(12):
            self.assertEqual(values(e, count), expected[:count], count)

    def test_value_of_each_kind_at_a_far_place(self):
        self.assertEqual(value(("product", COUNTING, COUNTING), 500), (250000, 1))
        self.assertEqual(value(("sums", COUNTING), 500), (125250, 1))
        self.assertEqual(value(("every", 20, 30, COUNTING), 100), (2030, 1))
        self.assertEqual(value(("weave", (NOTHING, COUNTING)), 1001), (500, 1))


class WordsOfTheDocumentTest(unittest.TestCase):
    """Each kind against the words of point 5, worked out place by place."""

    def check(self, e, counts):
        for count in counts:
            self.assertEqual(values(e, count), told_pairs(e, count), (e, count))
        last = counts[-1]
        expected = told_pairs(e, last)
        for place in range(last):
            self.assertEqual(value(e, place), expected[place], (e, place))

    def test_each_kind_over_each_two_told_rows(self):
        for e in ROWS.values():
            for f in ROWS.values():
                for made in made_from(e, f):
                    self.check(made, [0, 1, 2, 7])

    def test_each_kind_over_each_kind(self):
        for within in made_from(LATE, HALVES):
            for made in made_from(within, FIBONACCI):
                self.check(made, [0, 1, 8])
            for made in made_from(LATE, within):
                self.check(made, [0, 1, 8])

    def test_three_levels_of_each_kind(self):
        for low in made_from(FIBONACCI, HALVES):
            for middle in made_from(low, ONES):
                for high in made_from(middle, low):
                    self.assertEqual(values(high, 4), told_pairs(high, 4), high)

    def test_rows_of_all_depths_up_to_the_greatest_and_beyond(self):
        for levels in range(1, 15):
            self.check(deep(levels), [0, 1, 6])

    def test_a_count_that_is_no_multiple_of_the_number_of_woven_rows(self):
        woven = tuple(made_from(LATE, HALVES)[:5])
        self.check(("weave", woven), list(range(13)))

    def test_shift_and_every_far_out(self):
        for within in made_from(LATE, HALVES):
            self.check(("shift", 40, within), [0, 1, 3])
            self.check(("every", 5, 17, within), [0, 1, 4])


if __name__ == "__main__":
    unittest.main()
