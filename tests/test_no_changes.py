"""Point 2: numbers of any size, no argument is modified, returned lists are the caller's own."""

import copy
import unittest

from rowsworn.errors import NotWhole
from rowsworn.judge import accepts, judge
from rowsworn.keeping import determinant, is_shortest, keeps
from rowsworn.periods import period, period_holds
from rowsworn.rows import bound, value, values
from rowsworn.shortest import is_forced, order_of, recurrence_for, shortest
from rowsworn.texts import read_row, write_row
from rowsworn.whole import first_part, remainder_at
from tests.reference import pairs, row
from tests.samples import COUNTING, FIBONACCI, LARGE, LATE, ROWS, WHOLE, made_from

ALL = [
    *ROWS.values(), *WHOLE.values(), *made_from(LATE, FIBONACCI), *made_from(LARGE, LATE), *made_from(COUNTING, FIBONACCI),
]


def of_remainders(e):
    """Return what the functions tell that raise NotWhole, or its place."""
    try:
        ahead, length = period(e, 6)
        return (
            [remainder_at(e, place, 10) for place in (0, 3, 10 ** 50)], (ahead, length),
            period_holds(e, 6, ahead, length), period_holds(e, 6, ahead, 2 * length),
        )
    except NotWhole as error:
        return error.place


class NoChangesTest(unittest.TestCase):
    def test_a_change_of_a_returned_list_has_no_effect(self):
        for e in ALL:
            found = values(e, 6)
            before = list(found)
            found[0] = (99, 1)
            found.append((98, 1))
            found.reverse()
            self.assertEqual(values(e, 6), before, e)
            self.assertEqual([value(e, n) for n in range(6)], before, e)

    def test_an_emptied_list_has_no_effect(self):
        for e in ALL:
            before = list(values(e, 4))
            values(e, 4).clear()
            values(e, 0).append((5, 1))
            self.assertEqual(values(e, 0), [], e)
            self.assertEqual(values(e, 4), before, e)

    def test_a_later_call_changes_no_earlier_list(self):
        for e in ALL:
            found = values(e, 5)
            before = list(found)
            values(e, 9)
            value(e, 12)
            values(("shift", 2, e), 4)
            values(("put", (1, 1), e), 4)
            self.assertEqual(found, before, e)

    def test_no_argument_is_modified(self):
        for e in ALL:
            before = copy.deepcopy(e)
            values(e, 7)
            value(e, 7)
            bound(e)
            shortest(e)
            determinant(e, 2)
            keeps(e, LATE[1])
            is_shortest(e, LATE[1])
            judge(e, FIBONACCI)
            accepts(FIBONACCI, e, ("equal", LATE[1]))
            accepts(e, FIBONACCI, ("differ", 3))
            first_part(e)
            of_remainders(e)
            write_row(e)
            self.assertEqual(e, before)

    def test_no_list_of_first_values_is_modified(self):
        lists = [[], [(0, 1)], list(pairs(0, 0, "1/2")), list(pairs(1, 2, 4, 9, "1/3", 0, 0))]
        for fractions in [*lists, *[values(e, 9) for e in ALL]]:
            before = copy.deepcopy(fractions)
            recurrence_for(fractions)
            order_of(fractions)
            is_forced(fractions)
            self.assertEqual(fractions, before)

    def test_recurrences_and_papers_are_not_modified(self):
        for recurrence in ((), pairs(1, 1), pairs(1, 1, 0), pairs("1/2", 7)):
            before = copy.deepcopy(recurrence)
            papers = [("equal", recurrence), ("differ", 5)]
            for e in ALL:
                keeps(e, recurrence)
                is_shortest(e, recurrence)
                for paper in papers:
                    accepts(e, LATE, paper)
            self.assertEqual(recurrence, before)
            self.assertEqual(papers, [("equal", before), ("differ", 5)])

    def test_a_second_call_tells_the_same(self):
        for e in ALL:
            found = values(e, 9)
            first = (shortest(e), judge(e, LATE), determinant(e, 2), recurrence_for(found))
            more = (first_part(e), of_remainders(e), write_row(e))
            found.reverse()
            found.clear()
            found = values(e, 9)
            second = (shortest(e), judge(e, LATE), determinant(e, 2), recurrence_for(found))
            self.assertEqual(first, second, e)
            self.assertEqual((first_part(e), of_remainders(e), write_row(e)), more, e)

    def test_a_changed_list_has_no_effect_on_remainders_and_texts(self):
        for e in ALL:
            before = (first_part(e), of_remainders(e), write_row(e))
            found = values(e, 12)
            found[0] = (1, 7)
            found.reverse()
            values(e, 3).clear()
            self.assertEqual((first_part(e), of_remainders(e), write_row(e)), before, e)

    def test_an_expression_that_was_read_twice(self):
        for e in WHOLE.values():
            text = write_row(e)
            first = read_row(text)
            found = values(first, 5)
            found.clear()
            self.assertEqual(read_row(text), first)
            self.assertEqual(of_remainders(first), of_remainders(e))

    def test_numbers_of_hundreds_of_digits(self):
        large = 7 ** 400
        e = ("times", (1, large), row([large], [large]))
        self.assertEqual(values(e, 3), [(1, 1), (large, 1), (large ** 2, 1)])


if __name__ == "__main__":
    unittest.main()
