"""The strides with which values at great places are reached."""

import unittest

from rowsworn.strides import Strides

CASES = [
    ([], []),
    ([0], [5]),
    ([-3], [2]),
    ([1, 1], [0, 1]),
    ([2, 0, -7], [3, -1, 4]),
    ([1, 2, 3, 0, 0], [1, 0, -2, 9, 9]),
]


def told(factors, first, count):
    """Return the first values of the row of integers."""
    found = list(first)
    while len(found) < count:
        found.append(sum(c * found[-1 - i] for i, c in enumerate(factors)))
    return found[:count]


class StridesTest(unittest.TestCase):
    def test_a_stride_leads_to_the_window(self):
        for factors, first in CASES:
            d = len(factors)
            for m in (1, 2, 10, 97 ** 20):
                strides = Strides(factors, m)
                row = [x % m for x in told(factors, first, 60)]
                for n in range(40):
                    self.assertEqual(strides.taken(first, strides.stride(n)), tuple(row[n:n + d]))

    def test_a_stride_leads_on_from_each_place(self):
        for factors, first in CASES:
            d = len(factors)
            strides = Strides(factors, 1000)
            row = [x % 1000 for x in told(factors, first, 60)]
            for n in (0, 1, 5, 17):
                for k in (0, 1, 2, 11):
                    self.assertEqual(strides.taken(row[k:k + d], strides.stride(n)), tuple(row[k + n:k + n + d]))

    def test_joined_and_repeated(self):
        for factors, _ in CASES:
            for m in (1, 6, 10 ** 9):
                strides = Strides(factors, m)
                for n in (0, 1, 7, 100):
                    for k in (0, 1, 5, 10 ** 20):
                        joined = strides.joined(strides.stride(n), strides.stride(k))
                        self.assertEqual(joined, strides.stride(n + k))
                        self.assertEqual(strides.repeated(strides.stride(n), k), strides.stride(n * k))

    def test_run(self):
        for factors, first in CASES:
            strides = Strides(factors, 12)
            for count in range(12):
                self.assertEqual(strides.run(first, count), [x % 12 for x in told(factors, first, count)])

    def test_nothing_that_is_passed_is_changed(self):
        factors, first = [2, 0, -7], [3, -1, 4]
        strides = Strides(factors, 100)
        stride = strides.stride(9)
        before = list(stride)
        strides.joined(stride, stride)
        strides.repeated(stride, 5)
        strides.taken(first, stride)
        strides.run(first, 20)
        self.assertEqual((factors, first, stride), ([2, 0, -7], [3, -1, 4], before))


if __name__ == "__main__":
    unittest.main()
