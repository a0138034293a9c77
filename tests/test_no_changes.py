"""Point 2: numbers of any size, no argument is modified, returned lists are the caller's own."""

import copy
import unittest

from rowsworn.rows import bound, value, values
from tests.reference import row
from tests.samples import FIBONACCI, LARGE, LATE, ROWS, made_from

ALL = [*ROWS.values(), *made_from(LATE, FIBONACCI), *made_from(LARGE, LATE)]


class NoChangesTest(unittest.TestCase):
    def test_a_change_of_a_returned_list_has_no_effect(self):
        for e in ALL:
            found = values(e, 6)
            before = list(found)
            found[0] = (99, 1)
            found.append((98, 1))
            found.reverse()
            self.assertEqual(values(e, 6), before, e)
            self.assertEqual([value(e, n) for n in range(6)], before, e)

    def test_an_emptied_list_has_no_effect(self):
        for e in ALL:
            before = list(values(e, 4))
            values(e, 4).clear()
            values(e, 0).append((5, 1))
            self.assertEqual(values(e, 0), [], e)
            self.assertEqual(values(e, 4), before, e)

    def test_a_later_call_changes_no_earlier_list(self):
        for e in ALL:
            found = values(e, 5)
            before = list(found)
            values(e, 9)
            value(e, 12)
            values(("shift", 2, e), 4)
            values(("put", (1, 1), e), 4)
            self.assertEqual(found, before, e)

    def test_no_argument_is_modified(self):
        for e in ALL:
            before = copy.deepcopy(e)
            values(e, 7)
            value(e, 7)
            bound(e)
            self.assertEqual(e, before)

    def test_numbers_of_hundreds_of_digits(self):
        large = 7 ** 400
        e = ("times", (1, large), row([large], [large]))
        self.assertEqual(values(e, 3), [(1, 1), (large, 1), (large ** 2, 1)])


if __name__ == "__main__":
    unittest.main()
