"""Point 9: papers that two rows are equal or differ."""

import unittest

from rowsworn.judge import accepts, judge
from rowsworn.rows import value
from tests.reference import pair, pairs, row, told
from tests.samples import (
    COUNTING, FIBONACCI, HALVES, LARGE, LATE, NOTHING, ONES, ONLY_FIRST, ROWS, SIX,
    alone, apart, deep, made_from,
)
from tests.solver import first_values, longer, row_keeps

# Each tuple tells one row in several ways.
SAME = [
    (
        FIBONACCI,
        row([2, 0, -1], [0, 1, 1]),
        row([1, 1, 0, 0], [0, 1, 1, 2]),
        ("shift", 0, FIBONACCI),
        ("put", (0, 1), ("shift", 1, FIBONACCI)),
        ("times", (-3, 2), ("times", (-2, 3), FIBONACCI)),
        ("weave", (("every", 2, 0, FIBONACCI), ("every", 2, 1, FIBONACCI))),
        ("sum", ("shift", 1, FIBONACCI), ("times", (-1, 1), row([1, 1], [1, 0]))),
        ("product", FIBONACCI, ONES),
        ("fold", FIBONACCI, row([0], [1])),
        ("every", 2, 0, ("weave", (FIBONACCI, SIX))),
        ("put", (0, 1), ("sums", row([1, 1], [1, 0]))),
    ),
    (
        COUNTING,
        ("put", (0, 1), ("sums", ONES)),
        ("put", (0, 1), ("fold", ONES, ONES)),
        ("sum", ("sums", ONES), ("times", (-1, 1), ONES)),
        row([3, -3, 1], [0, 1, 2]),
        ("times", (1, 3), ("every", 3, 0, COUNTING)),
    ),
    (
        NOTHING,
        row([1, 1], [0, 0]),
        ("times", (0, 1), SIX),
        ("sum", LARGE, ("times", (-1, 1), LARGE)),
        ("shift", 1, ONLY_FIRST),
        ("product", NOTHING, LATE),
        ("fold", NOTHING, NOTHING),
        ("weave", (NOTHING, ("put", (0, 1), NOTHING))),
    ),
    (
        ("product", FIBONACCI, FIBONACCI),
        row([2, 2, -1], [0, 1, 1]),
        ("product", ("put", (0, 1), ("shift", 1, FIBONACCI)), row([2, 0, -1], [0, 1, 1])),
    ),
    (
        alone(33, "4/9"),
        ("times", (-2, 3), alone(33, "-2/3")),
        ("shift", 2, alone(35, "4/9")),
        ("product", alone(33, "2/3"), alone(33, "2/3")),
    ),
]


class JudgeTestCase(unittest.TestCase):
    def check_equal(self, e, f):
        paper = judge(e, f)
        self.assertIs(paper.__class__, tuple)
        word, recurrence = paper
        self.assertEqual(word, "equal", (e, f))
        self.assertIs(recurrence.__class__, tuple)
        self.assertTrue(row_keeps(e, recurrence), (e, f))
        self.assertTrue(row_keeps(f, recurrence), (e, f))
        d = len(recurrence)
        self.assertEqual(first_values(e, d), first_values(f, d), (e, f))
        self.assertIs(accepts(e, f, paper), True, (e, f))
        self.assertIs(accepts(f, e, paper), True, (e, f))

    def check_differ(self, e, f, place):
        for one, other in ((e, f), (f, e)):
            self.assertEqual(judge(one, other), ("differ", place), (one, other))
            self.assertIs(accepts(one, other, ("differ", place)), True, (one, other))
            for before in range(-3, place):
                self.assertIs(accepts(one, other, ("differ", before)), False, (one, other, before))


class EqualTest(JudgeTestCase):
    def test_the_same_row_told_in_several_ways(self):
        for rows in SAME:
            for e in rows:
                for f in rows:
                    self.check_equal(e, f)

    def test_an_expression_with_itself(self):
        for e in (*ROWS.values(), *made_from(LATE, FIBONACCI), deep(12)):
            self.check_equal(e, e)

    def test_two_expressions_with_the_bound_0(self):
        self.assertEqual(judge(NOTHING, ("product", NOTHING, SIX)), ("equal", ()))
        self.assertEqual(judge(NOTHING, NOTHING), ("equal", ()))

    def test_what_holds_of_all_rows(self):
        for e, f in ((FIBONACCI, HALVES), (LATE, FIBONACCI), (ONLY_FIRST, SIX), (LARGE, NOTHING)):
            self.check_equal(("sum", e, f), ("sum", f, e))
            self.check_equal(("fold", e, f), ("fold", f, e))
            self.check_equal(("fold", e, ("sum", e, f)), ("sum", ("fold", e, e), ("fold", e, f)))
            self.check_equal(("sums", e), ("fold", e, ONES))
            self.check_equal(("put", (0, 1), e), ("fold", alone(1, 1), e))
            self.check_equal(e, ("weave", tuple(("every", 3, r, e) for r in range(3))))

    def test_a_product_of_twelve_rows(self):
        e = f = FIBONACCI
        for _ in range(10):
            e = ("product", e, COUNTING)
            f = ("product", COUNTING, f)
        self.assertEqual(judge(e, f)[0], "equal")
        self.assertIs(accepts(e, f, judge(f, e)), True)
        self.assertEqual(judge(e, ("sum", alone(60, 1), f)), ("differ", 60))


class DifferTest(JudgeTestCase):
    def test_at_the_place_0(self):
        self.check_differ(NOTHING, ONES, 0)
        self.check_differ(ONLY_FIRST, NOTHING, 0)
        self.check_differ(HALVES, ("times", (-1, 1), HALVES), 0)
        self.check_differ(FIBONACCI, ("shift", 1, FIBONACCI), 0)
        self.check_differ(("put", (1, 2), LATE), ("put", (1, 3), LATE), 0)

    def test_at_an_early_place(self):
        self.check_differ(FIBONACCI, COUNTING, 2)
        self.check_differ(ONES, ("sums", ONLY_FIRST), 0)
        self.check_differ(ONES, ("put", (1, 1), COUNTING), 1)
        self.check_differ(ONES, ("weave", (ONES, ONES, HALVES)), 2)
        self.check_differ(LARGE, row(["1/2", 3], [f"{p}/{q}" for p, q in LARGE[2]]), 2)

    def test_at_a_late_place(self):
        for e in (NOTHING, HALVES, FIBONACCI, ("fold", LATE, HALVES), ("weave", (ONES, COUNTING))):
            for place in (5, 6, 7, 8, 9, 15, 16, 17, 30, 47, 64):
                self.check_differ(e, apart(e, place), place)

    def test_the_least_place_of_several(self):
        e = apart(apart(FIBONACCI, 50), 30)
        self.check_differ(e, FIBONACCI, 30)
        self.check_differ(e, apart(FIBONACCI, 30), 50)
        self.check_differ(e, apart(FIBONACCI, 50), 30)

    def test_at_all_places_from_a_late_one_on(self):
        other = row([2, -1] + [0] * 37 + ["1/1000"], list(range(40)))
        self.check_differ(other, COUNTING, 41)
        self.check_differ(ONES, row([0] * 36 + [1], [1] * 36 + [2]), 36)

    def test_one_keeps_the_recurrence_of_the_other_with_other_first_values(self):
        self.check_differ(FIBONACCI, row([1, 1], [0, 2]), 1)
        self.check_differ(FIBONACCI, row([1, 1], [2, 1]), 0)
        self.check_differ(ONES, row([2, -1], [1, 2]), 1)
        self.check_differ(LATE, ("times", (2, 1), LATE), 0)
        self.check_differ(COUNTING, row([3, -3, 1], [0, 1, 3]), 2)

    def test_a_place_that_is_not_below_either_bound(self):
        self.check_differ(row([1, 0, 0], [1, 1, 1]), row([0, 0, 2], [1, 1, 1]), 3)
        # The sum of the bounds is 72, and the last place below it is the first that tells.
        ones = row([0] * 35 + [1], [0] * 35 + [1])
        signs = row([0] * 35 + [-1], [0] * 35 + [1])
        self.check_differ(ones, signs, 71)

    def test_place_by_place(self):
        told_rows = [*ROWS.values(), *made_from(HALVES, FIBONACCI), *made_from(ONES, ONLY_FIRST)]
        for e in told_rows:
            for f in told_rows:
                # No two of these rows have bounds with a sum above 60.
                place = next((n for n in range(60) if told(e, n) != told(f, n)), None)
                if place is None:
                    self.check_equal(e, f)
                else:
                    self.assertEqual(judge(e, f), ("differ", place), (e, f))
                    self.assertIs(accepts(e, f, ("differ", place)), True, (e, f))


class AcceptsTest(unittest.TestCase):
    def check(self, e, f, paper, expected):
        self.assertIs(accepts(e, f, paper), expected, (e, f, paper))
        self.assertIs(accepts(f, e, paper), expected, (f, e, paper))

    def test_any_recurrence_that_both_keep_with_the_same_first_values(self):
        for rows in SAME[:2]:
            recurrence = judge(rows[0], rows[1])[1]
            for e in rows:
                for f in rows:
                    more = recurrence
                    for x in (0, "1/2", -3, 0):
                        more = longer(more, x)
                        self.check(e, f, ("equal", more), True)

    def test_a_recurrence_that_one_row_alone_keeps(self):
        self.check(ONES, HALVES, ("equal", pairs(1)), False)
        self.check(ONES, HALVES, ("equal", pairs("-1/2")), False)
        self.check(NOTHING, ONLY_FIRST, ("equal", ()), False)
        self.check(FIBONACCI, COUNTING, ("equal", pairs(1, 1)), False)
        for place in (2, 8, 9, 10, 33):
            self.check(FIBONACCI, apart(FIBONACCI, place), ("equal", pairs(1, 1)), False)
            self.check(NOTHING, alone(place, "1/2"), ("equal", ()), False)

    def test_a_recurrence_that_no_row_keeps(self):
        self.check(FIBONACCI, FIBONACCI, ("equal", pairs(1)), False)
        self.check(FIBONACCI, FIBONACCI, ("equal", pairs(1, 2)), False)
        self.check(FIBONACCI, FIBONACCI, ("equal", ()), False)
        self.check(ONES, COUNTING, ("equal", pairs(3)), False)
        late = apart(ONES, 40)
        self.check(late, late, ("equal", pairs(1)), False)

    def test_one_that_both_keep_with_other_first_values(self):
        both = pairs("1/2", "1/2")
        self.check(ONES, HALVES, ("equal", both), False)
        self.check(FIBONACCI, row([1, 1], [0, 2]), ("equal", pairs(1, 1)), False)
        self.check(FIBONACCI, row([1, 1], [1, 1]), ("equal", pairs(1, 1)), False)
        self.check(ONLY_FIRST, NOTHING, ("equal", pairs(0)), False)
        zeros = pairs(*[0] * 34)
        self.check(alone(33, 1), alone(33, 2), ("equal", zeros), False)
        self.check(alone(33, 1), alone(33, 1), ("equal", zeros), True)
        self.check(alone(33, 1), alone(33, 1), ("equal", zeros[1:]), False)
        self.check(alone(33, 1), NOTHING, ("equal", zeros), False)
        self.check(apart(ONES, 33), ONES, ("equal", (*pairs(1), *zeros)), False)

    def test_the_empty_recurrence(self):
        for e in SAME[2]:
            for f in SAME[2]:
                self.check(e, f, ("equal", ()), True)
                self.check(e, f, ("equal", pairs(5)), True)
                self.check(e, f, ("equal", pairs(1, 0, -7)), True)
            for f in (ONES, ONLY_FIRST, FIBONACCI, alone(40, 1)):
                self.check(e, f, ("equal", ()), False)
        self.check(ONES, ONES, ("equal", ()), False)
        self.check(alone(40, 1), alone(40, 1), ("equal", ()), False)

    def test_places_below_0(self):
        for e, f in ((ONES, NOTHING), (FIBONACCI, HALVES), (LATE, LATE)):
            for place in (-1, -2, -3, -50, -10 ** 30):
                self.check(e, f, ("differ", place), False)

    def test_each_place(self):
        rows = [NOTHING, FIBONACCI, COUNTING, ("weave", (ONES, HALVES)), ("sums", SIX), alone(3, 2)]
        for e in rows:
            for f in rows:
                for place in range(25):
                    self.check(e, f, ("differ", place), told(e, place) != told(f, place))

    def test_late_places(self):
        self.check(ONES, row([-1], [1]), ("differ", 9999), True)
        self.check(ONES, row([-1], [1]), ("differ", 10000), False)
        self.check(FIBONACCI, ("shift", 1, FIBONACCI), ("differ", 3000), True)
        self.check(FIBONACCI, FIBONACCI, ("differ", 3000), False)
        for place in (99, 100, 101, 130):
            e = ("fold", COUNTING, HALVES)
            f = apart(e, place, "1/1000000007")
            for other in (98, 99, 100, 101, 102, 129, 130, 131, 150):
                self.check(e, f, ("differ", other), other == place)

    def test_a_late_place_of_a_fold(self):
        # The sums of 0, 1 .. n are n * (n + 1) / 2.
        e = ("fold", COUNTING, ONES)
        self.assertEqual(value(e, 120), pair(7260))
        other = ("product", COUNTING, ("times", (1, 2), ("sum", COUNTING, ONES)))
        self.check(e, other, ("differ", 2000), False)
        self.check(e, ("sum", COUNTING, other), ("differ", 2000), True)


if __name__ == "__main__":
    unittest.main()
