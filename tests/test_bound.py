import unittest

from rowsworn.rows import bound
from tests.samples import FIBONACCI, HALVES, LATE, NOTHING, ROWS, SIX


class BoundTest(unittest.TestCase):
    def test_row(self):
        self.assertEqual(bound(NOTHING), 0)
        self.assertEqual(bound(HALVES), 1)
        self.assertEqual(bound(SIX), 6)
        for e in ROWS.values():
            self.assertEqual(bound(e), len(e[1]))

    def test_the_last_fractions_count_even_if_they_are_0(self):
        self.assertEqual(bound(("row", ((0, 1), (0, 1)), ((0, 1), (0, 1)))), 2)

    def test_sum_and_fold(self):
        for kind in ("sum", "fold"):
            self.assertEqual(bound((kind, LATE, FIBONACCI)), 5)
            self.assertEqual(bound((kind, LATE, NOTHING)), 3)
            self.assertEqual(bound((kind, NOTHING, NOTHING)), 0)

    def test_product(self):
        self.assertEqual(bound(("product", LATE, FIBONACCI)), 6)
        self.assertEqual(bound(("product", LATE, LATE)), 9)
        self.assertEqual(bound(("product", HALVES, SIX)), 6)

    def test_product_with_the_empty_recurrence(self):
        self.assertEqual(bound(("product", LATE, NOTHING)), 0)
        self.assertEqual(bound(("product", NOTHING, SIX)), 0)

    def test_times_shift_and_every(self):
        for e in (NOTHING, HALVES, SIX):
            self.assertEqual(bound(("times", (0, 1), e)), bound(e))
            self.assertEqual(bound(("times", (5, 3), e)), bound(e))
            self.assertEqual(bound(("shift", 0, e)), bound(e))
            self.assertEqual(bound(("shift", 9, e)), bound(e))
            self.assertEqual(bound(("every", 1, 0, e)), bound(e))
            self.assertEqual(bound(("every", 4, 9, e)), bound(e))

    def test_put_and_sums(self):
        for e in (NOTHING, HALVES, SIX):
            self.assertEqual(bound(("put", (0, 1), e)), bound(e) + 1)
            self.assertEqual(bound(("sums", e)), bound(e) + 1)

    def test_weave(self):
        self.assertEqual(bound(("weave", (SIX,))), 6)
        self.assertEqual(bound(("weave", (LATE, FIBONACCI))), 10)
        self.assertEqual(bound(("weave", (LATE, NOTHING, HALVES, FIBONACCI))), 24)
        self.assertEqual(bound(("weave", (NOTHING, NOTHING))), 0)

    def test_nested(self):
        inner = ("put", (1, 2), ("product", LATE, FIBONACCI))
        self.assertEqual(bound(inner), 7)
        woven = ("weave", (inner, ("sums", HALVES), NOTHING))
        self.assertEqual(bound(woven), 27)
        self.assertEqual(bound(("product", woven, ("sum", FIBONACCI, SIX))), 216)
        self.assertEqual(bound(("sums", ("shift", 3, ("every", 2, 5, woven)))), 28)
        self.assertEqual(bound(("fold", ("times", (0, 1), woven), ("sums", woven))), 55)

    def test_large_bounds(self):
        e = LATE
        for _ in range(7):
            e = ("product", e, e)
        self.assertEqual(bound(e), 3 ** 128)


if __name__ == "__main__":
    unittest.main()
