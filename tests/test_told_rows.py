import unittest

from rowsworn.rows import value, values
from tests.reference import pairs, row, told_pairs
from tests.samples import FIBONACCI, NOTHING, ROWS, THIRTY


class ToldRowsTest(unittest.TestCase):
    def test_examples(self):
        self.assertEqual(values(FIBONACCI, 10), list(pairs(0, 1, 1, 2, 3, 5, 8, 13, 21, 34)))
        self.assertEqual(values(row(["1/2"], [3]), 4), list(pairs(3, "3/2", "3/4", "3/8")))
        self.assertEqual(values(row([1, 2, 3], [1, 0, 0]), 6), list(pairs(1, 0, 0, 3, 3, 9)))

    def test_the_empty_recurrence_is_0_at_all_places(self):
        self.assertEqual(values(NOTHING, 0), [])
        self.assertEqual(values(NOTHING, 5), [(0, 1)] * 5)
        self.assertEqual(value(NOTHING, 0), (0, 1))
        self.assertEqual(value(NOTHING, 100), (0, 1))

    def test_the_last_fractions_may_be_0(self):
        self.assertEqual(values(row([0], [5]), 4), list(pairs(5, 0, 0, 0)))
        self.assertEqual(values(row([2, 0, 0], [7, 1, 3]), 6), list(pairs(7, 1, 3, 6, 12, 24)))

    def test_the_first_fraction_belongs_to_the_latest_value(self):
        self.assertEqual(values(row([1, 0], [3, 5]), 4), list(pairs(3, 5, 5, 5)))
        self.assertEqual(values(row([0, 1], [3, 5]), 4), list(pairs(3, 5, 3, 5)))

    def test_numbers_of_thirty_digits(self):
        e = row([THIRTY], [THIRTY])
        self.assertEqual(values(e, 5), [(THIRTY ** (n + 1), 1) for n in range(5)])
        e = row([f"1/{THIRTY}"], [-1])
        self.assertEqual(values(e, 5), [(-1, THIRTY ** n) for n in range(5)])

    def test_each_row_at_each_count_against_the_words_of_the_document(self):
        for name, e in ROWS.items():
            for count in range(len(e[1]) + 8):
                self.assertEqual(values(e, count), told_pairs(e, count), (name, count))

    def test_value_agrees_with_values(self):
        for name, e in ROWS.items():
            all_values = values(e, 15)
            for place in range(15):
                self.assertEqual(value(e, place), all_values[place], (name, place))

    def test_a_far_place(self):
        self.assertEqual(value(FIBONACCI, 100), (354224848179261915075, 1))

    def test_the_values_are_a_list_of_tuples(self):
        for e in ROWS.values():
            found = values(e, 9)
            self.assertIs(found.__class__, list)
            self.assertTrue(all(x.__class__ is tuple for x in found))


if __name__ == "__main__":
    unittest.main()
