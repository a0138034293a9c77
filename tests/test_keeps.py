"""Points 4 and 7: which recurrences a row keeps."""

import unittest

from rowsworn.keeping import keeps
from tests.reference import pair, pairs, row
from tests.samples import (
    FIBONACCI, HALVES, LARGE, LATE, NOTHING, ONES, ONLY_FIRST, ROWS, SIX, alone, apart, deep, made_from,
)
from tests.solver import longer, row_keeps, shortest_of


def slightly_greater(x):
    p, q = x
    return pair(f"{p * 10 ** 40 + q}/{q * 10 ** 40}")


def changed(recurrence):
    """Return recurrences of which one fraction is another, is left out or comes to it."""
    found = []
    for i, c in enumerate(recurrence):
        ahead, behind = recurrence[:i], recurrence[i + 1:]
        found.append((*ahead, slightly_greater(c), *behind))
        found.append((*ahead, (-c[0] - 1, c[1]), *behind))
        found.append((*ahead, *behind))
    for i in range(len(recurrence) + 1):
        found.append((*recurrence[:i], (1, 3), *recurrence[i:]))
        found.append((*recurrence[:i], (0, 1), *recurrence[i:]))
    return [tuple(pair(f"{p}/{q}") for p, q in one) for one in found]


class ExamplesTest(unittest.TestCase):
    """Examples that were worked out by hand."""

    def check(self, e, recurrence, expected):
        self.assertIs(keeps(e, pairs(*recurrence)), expected, (e, recurrence))

    def test_fibonacci(self):
        self.check(FIBONACCI, [1, 1], True)
        self.check(FIBONACCI, [2, 0, -1], True)
        self.check(FIBONACCI, [1, 1, 0], True)
        self.check(FIBONACCI, [0, 3, 0, -1], True)
        self.check(FIBONACCI, [1], False)
        self.check(FIBONACCI, [], False)
        self.check(FIBONACCI, [1, 2], False)
        self.check(FIBONACCI, [1, "1000000001/1000000000"], False)
        self.check(FIBONACCI, [1, 1, 1], False)
        self.check(FIBONACCI, [0, 1, 1], False)

    def test_the_empty_recurrence(self):
        self.check(NOTHING, [], True)
        self.check(row([1, 1], [0, 0]), [], True)
        self.check(("times", (0, 1), SIX), [], True)
        self.check(("product", NOTHING, SIX), [], True)
        self.check(("sum", SIX, ("times", (-1, 1), SIX)), [], True)
        self.check(ONLY_FIRST, [], False)
        self.check(ONES, [], False)

    def test_the_empty_recurrence_for_a_row_that_is_0_at_all_places_but_one(self):
        for place in (0, 1, 2, 7, 8, 9, 30, 41):
            self.check(alone(place, "-1/9"), [], False)
            self.check(("shift", place, alone(place, 3)), [], False)
            self.check(("shift", place + 1, alone(place, 3)), [], True)
            self.check(apart(NOTHING, place), [], False)

    def test_a_row_that_is_0_but_at_the_first_place(self):
        self.check(ONLY_FIRST, [0], True)
        self.check(ONLY_FIRST, [0, 0], True)
        self.check(ONLY_FIRST, [7, 0], True)
        self.check(ONLY_FIRST, ["1/1000000"], False)
        self.check(ONLY_FIRST, [0, 1], False)

    def test_a_bound_of_0(self):
        for recurrence in ([], [0], [5], [0, 0, 0], ["2/3", -7, 0, 1]):
            self.check(NOTHING, recurrence, True)
            self.check(("fold", NOTHING, NOTHING), recurrence, True)
            self.check(("product", LATE, NOTHING), recurrence, True)
            self.check(("weave", (NOTHING, NOTHING)), recurrence, True)
        self.check(("put", (1, 1), NOTHING), [0], True)
        self.check(("put", (1, 1), NOTHING), [1], False)
        self.check(("sums", ("put", (1, 1), NOTHING)), [1], True)

    def test_last_fractions_0(self):
        self.check(("put", (7, 1), ONES), [1, 0], True)
        self.check(("put", (7, 1), ONES), [1], False)
        self.check(("put", (1, 1), ONES), [1], True)
        self.check(("put", (5, 1), ("put", (7, 1), ONES)), [1, 0, 0], True)
        self.check(("put", (5, 1), ("put", (7, 1), ONES)), [1, 0], False)
        self.check(row([2, 0, 0], [7, 1, 3]), [2, 0], False)
        self.check(row([2, 0, 0], [7, 1, 2]), [2, 0], True)

    def test_joined_rows(self):
        self.check(("product", FIBONACCI, FIBONACCI), [2, 2, -1], True)
        self.check(("product", FIBONACCI, FIBONACCI), [2, 2, -2], False)
        self.check(("sums", FIBONACCI), [2, 0, -1], True)
        self.check(("sums", FIBONACCI), [1, 1], False)
        self.check(("every", 2, 1, FIBONACCI), [3, -1], True)
        self.check(("every", 2, 1, FIBONACCI), [1, 1], False)
        self.check(("fold", ONES, ONES), [2, -1], True)
        self.check(("fold", ONES, ONES), [1], False)
        self.check(("weave", (ONES, NOTHING)), [0, 1], True)
        self.check(("weave", (ONES, NOTHING)), [1], False)
        self.check(("shift", 9, FIBONACCI), [1, 1], True)
        self.check(("times", (-2, 3), HALVES), ["-1/2"], True)
        self.check(("sum", ONES, HALVES), ["1/2", "1/2"], True)
        self.check(("sum", ONES, HALVES), [1], False)


class WordsOfTheDocumentTest(unittest.TestCase):
    """Against the condition of point 4, worked out with Python's own fractions."""

    def check(self, e, recurrence):
        self.assertIs(keeps(e, recurrence), row_keeps(e, recurrence), (e, recurrence))

    def check_around(self, e, recurrence):
        """The recurrence is kept; so are longer ones; changed ones mostly are not."""
        self.assertIs(keeps(e, recurrence), True, (e, recurrence))
        for x in (0, 1, "-2/3"):
            more = longer(recurrence, x)
            self.assertIs(keeps(e, more), True, (e, more))
            self.assertIs(keeps(e, longer(more, 0)), True, (e, more))
        for other in changed(recurrence):
            self.check(e, other)

    def test_told_rows_with_the_recurrence_that_tells_them(self):
        for e in ROWS.values():
            self.check_around(e, e[1])

    def test_a_changed_recurrence_is_not_kept_where_no_other_one_is(self):
        for e in (ONES, HALVES, FIBONACCI, LATE, LARGE, SIX):
            for i, c in enumerate(e[1]):
                other = (*e[1][:i], slightly_greater(c), *e[1][i + 1:])
                self.assertIs(keeps(e, other), False, (e, other))
            self.assertIs(keeps(e, e[1][1:]), False, e)
            self.assertIs(keeps(e, e[1][:-1]), False, e)

    def test_joined_rows_of_all_kinds_with_their_shortest_recurrence(self):
        for e, f in ((FIBONACCI, HALVES), (LATE, ONES), (ONLY_FIRST, FIBONACCI), (NOTHING, LATE)):
            for made in made_from(e, f):
                self.check_around(made, shortest_of(made))

    def test_joined_rows_with_the_recurrences_of_their_parts(self):
        for e, f in ((FIBONACCI, HALVES), (LATE, ONES), (ONLY_FIRST, ONES)):
            for made in made_from(e, f):
                for recurrence in (e[1], f[1], (), *changed(e[1])):
                    self.check(made, recurrence)

    def test_more_fractions_than_the_bound_tells(self):
        for e in (HALVES, FIBONACCI, ("product", HALVES, FIBONACCI), ("put", (2, 5), ONES)):
            recurrence = shortest_of(e)
            for x in range(12):
                recurrence = longer(recurrence, f"{x - 5}/3")
                self.assertIs(keeps(e, recurrence), True, (e, recurrence))
                self.assertIs(keeps(e, (*recurrence[:-1], (1, 97))), False, (e, recurrence))

    def test_deep_rows(self):
        for levels in range(1, 13):
            e = deep(levels)
            recurrence = shortest_of(e)
            self.assertIs(keeps(e, recurrence), True, e)
            if recurrence:
                self.assertIs(keeps(e, recurrence[:-1]), False, e)
                other = (*recurrence[:-1], slightly_greater(recurrence[-1]))
                self.assertIs(keeps(e, other), False, e)


class LateTest(unittest.TestCase):
    """Rows that differ for the first time at a late place, with each other's recurrences."""

    def test_one_value_apart(self):
        for e in (ONES, HALVES, FIBONACCI, SIX):
            for place in (30, 35, 53):
                late = apart(e, place)
                theirs = (*e[1], *[(0, 1)] * (place + 1))
                self.assertIs(keeps(e, e[1]), True)
                self.assertIs(keeps(late, e[1]), False, (e, place))
                self.assertIs(keeps(late, theirs[:-1]), False, (e, place))
                self.assertIs(keeps(late, theirs), True, (e, place))
                self.assertIs(keeps(e, theirs), True, (e, place))

    def test_all_values_apart_from_a_late_place_on(self):
        recurrence = pairs(*[0] * 36, 1)
        other = row([0] * 36 + [1], [1] * 36 + [2])
        self.assertIs(keeps(ONES, recurrence), True)
        self.assertIs(keeps(other, recurrence), True)
        self.assertIs(keeps(other, ONES[1]), False)

    def test_a_told_row_that_looks_like_another_for_long(self):
        first = [n + 1 for n in range(40)]
        other = row([2, -1] + [0] * 37 + ["1/1000"], first)
        counting = row([2, -1], [1, 2])
        self.assertIs(keeps(other, counting[1]), False)
        self.assertIs(keeps(other, other[1]), True)
        self.assertIs(keeps(counting, other[1]), False)

    def test_a_large_bound(self):
        e = FIBONACCI
        for _ in range(11):
            e = ("product", e, ONES)
        self.assertIs(keeps(e, FIBONACCI[1]), True)
        for _ in range(3):
            e = ("product", e, row([3, -2], [1, 1]))
        self.assertIs(keeps(e, FIBONACCI[1]), True)
        self.assertIs(keeps(apart(e, 44), FIBONACCI[1]), False)


if __name__ == "__main__":
    unittest.main()
