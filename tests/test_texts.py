"""Point 13: the texts of expressions, and the expressions of texts."""

import copy
import unittest

from rowsworn.errors import BadText, NoFraction, NotWhole, RowError
from rowsworn.texts import read_row, write_row
from tests.reference import pairs, row
from tests.samples import FIBONACCI, HALVES, NOTHING, ONES, ROWS, SIX, deep, made_from

LINES = [
    (NOTHING, "row 0"),
    (ONES, "row 1 1 1"),
    (FIBONACCI, "row 2 1 1 0 1"),
    (HALVES, "row 1 -1/2 3/4"),
    (row([0], [0]), "row 1 0 0"),
    (row(["-3/4", 7, "1/999999999"], [-999999999, "-999999999/999999998", 0]),
     "row 3 -3/4 7 1/999999999 -999999999 -999999999/999999998 0"),
    (SIX, "row 6 1 -2/3 0 5/4 2 1/7 1/2 0 -3 2/5 1 1"),
    (("sum", ONES, NOTHING), "sum row 1 1 1 row 0"),
    (("product", NOTHING, ONES), "product row 0 row 1 1 1"),
    (("fold", FIBONACCI, HALVES), "fold row 2 1 1 0 1 row 1 -1/2 3/4"),
    (("times", (-3, 4), ONES), "times -3/4 row 1 1 1"),
    (("times", (0, 1), ("times", (7, 1), NOTHING)), "times 0 times 7 row 0"),
    (("shift", 0, ONES), "shift 0 row 1 1 1"),
    (("shift", 999999999, NOTHING), "shift 999999999 row 0"),
    (("put", (-5, 1), ONES), "put -5 row 1 1 1"),
    (("sums", ("sums", NOTHING)), "sums sums row 0"),
    (("every", 1, 0, ONES), "every 1 0 row 1 1 1"),
    (("every", 20, 305, ONES), "every 20 305 row 1 1 1"),
    (("weave", (ONES,)), "weave 1 row 1 1 1"),
    (("weave", (ONES, NOTHING, ("weave", (NOTHING,)))), "weave 3 row 1 1 1 row 0 weave 1 row 0"),
    (("sum", ("put", (1, 2), ONES), ("weave", (("every", 2, 1, NOTHING), NOTHING))),
     "sum put 1/2 row 1 1 1 weave 2 every 2 1 row 0 row 0"),
]

WORDS = [
    "row", "sum", "product", "fold", "times", "shift", "put", "sums", "every", "weave",
    "0", "1", "2", "-1", "1/2", "-2/3", "10", "", "x", "-", "/", "2/4", "-0", "01", "1/1",
]
SIGNS = " -/+0129.x_"


def depth(e):
    if e[0] == "row":
        return 1
    within = e[1] if e[0] == "weave" else [x for x in e[1:] if isinstance(x, tuple) and isinstance(x[0], str)]
    return 1 + max(depth(x) for x in within)


def largest(e):
    """Return the largest integer of an expression, signs left aside."""
    if isinstance(e, int):
        return abs(e)
    return max([0, *[largest(x) for x in e if not isinstance(x, str)]])


class WriteTest(unittest.TestCase):
    def test_texts_worked_out_by_hand(self):
        for e, text in LINES:
            self.assertEqual(write_row(e), text)

    def test_large_numbers_are_written(self):
        n = 1234567890
        self.assertEqual(write_row(("shift", n, NOTHING)), "shift 1234567890 row 0")
        self.assertEqual(write_row(row([-n], [f"1/{n}"])), "row 1 -1234567890 1/1234567890")
        self.assertEqual(write_row(("every", 10 ** 9, 10 ** 30, NOTHING)), f"every {10 ** 9} {10 ** 30} row 0")

    def test_numbers_of_thousands_of_digits_are_written(self):
        for digits in (600, 601, 602, 603, 604, 640, 641, 1300, 4299, 4300, 4301, 9000, 20000):
            self.assertEqual(write_row(("shift", 10 ** digits, NOTHING)), "shift 1" + "0" * digits + " row 0")
            nines = "9" * digits
            n = 10 ** digits - 1
            self.assertEqual(write_row(("put", (-n, 1), NOTHING)), f"put -{nines} row 0")
            self.assertEqual(write_row(("put", (1, n), NOTHING)), f"put 1/{nines} row 0")
            mixed = 10 ** digits * 1203 + 450
            self.assertEqual(write_row(("put", (mixed, 1), NOTHING)), "put 1203" + "450".zfill(digits) + " row 0")

    def test_more_than_12_deep_is_written(self):
        e = NOTHING
        for _ in range(15):
            e = ("sums", e)
        self.assertEqual(write_row(e), "sums " * 15 + "row 0")


class ReadTest(unittest.TestCase):
    def refuse(self, text):
        with self.assertRaises(BadText, msg=text) as caught:
            read_row(text)
        self.assertIsInstance(caught.exception, RowError)
        self.assertIsInstance(caught.exception, ValueError)
        self.assertNotIsInstance(caught.exception, (NoFraction, NotWhole))

    def test_texts_worked_out_by_hand(self):
        for e, text in LINES:
            self.assertEqual(read_row(text), e)

    def test_expressions_of_all_kinds(self):
        within = [NOTHING, FIBONACCI, HALVES, SIX, row([], []), row([0] * 40, range(40))]
        for e in within:
            for f in within:
                for joined in made_from(e, f):
                    if largest(joined) < 10 ** 9:
                        self.assertEqual(read_row(write_row(joined)), joined)
        many = ("weave", tuple(("shift", k, ROWS["late"]) for k in range(300)))
        self.assertEqual(read_row(write_row(many)), many)

    def test_the_kinds_of_what_is_read(self):
        for _, text in LINES:
            self.only_tuples(read_row(text))

    def only_tuples(self, x):
        self.assertIn(x.__class__, (tuple, int, str))
        if isinstance(x, tuple):
            for part in x:
                self.only_tuples(part)

    def test_how_deep(self):
        for levels in range(1, 13):
            e = deep(levels)
            self.assertEqual(read_row(write_row(e)), e)
        self.refuse(write_row(deep(13)))
        for word in ("sums", "times 1/2", "put -3", "shift 2", "every 2 3", "weave 1"):
            text = f"{word} " * 11 + "row 1 1 1"
            self.assertEqual(write_row(read_row(text)), text)
            self.refuse(f"{word} " + text)
        for word in ("sum", "product", "fold", "weave 2"):
            self.assertEqual(depth(read_row(f"{word} row 0 " * 11 + "row 0")), 12)
            self.refuse(f"{word} row 0 " * 12 + "row 0")
            left = f"{word} " * 11 + "row 0" + " row 0" * 11
            self.assertEqual(depth(read_row(left)), 12)
            self.refuse(f"{word} " + left + " row 0")
        self.refuse("sums " * 100000 + "row 0")

    def test_9_digits_are_read_and_10_are_not(self):
        for text in (
            "shift {} row 0", "every {} 0 row 0", "every 1 {} row 0", "times {} row 0", "times -{} row 0",
            "put {} row 0", "put -{} row 0", "put 1/{} row 0", "put -{}/7 row 0", "row 1 {} 0", "row 1 0 {}",
            "row 1 0 -{}", "row 1 1/{} 0",
        ):
            e = read_row(text.format(999999998))
            self.assertEqual(write_row(e), text.format(999999998))
            for digits in (10, 11, 30, 5000):
                self.refuse(text.format("1" * digits))
            self.refuse(text.format(10 ** 9))
            self.refuse(text.format("0999999998"))

    def test_what_was_written_with_more_than_9_digits(self):
        for e in (
            ("shift", 10 ** 9, NOTHING), ("every", 10 ** 9, 0, NOTHING), ("every", 1, 10 ** 9, NOTHING),
            ("times", (10 ** 9, 1), NOTHING), ("put", (1, 10 ** 9), NOTHING), ("put", (-10 ** 9, 1), NOTHING),
            row([10 ** 9], [0]), row([0], [f"-1/{10 ** 9}"]), ("put", (7, 10 ** 5000), NOTHING),
        ):
            self.refuse(write_row(e))

    def test_words_that_are_no_numbers(self):
        for word in (
            "-0", "+1", "+0", "1/1", "0/1", "0/2", "2/4", "-2/4", "6/3", "1/0", "0/0", "1/-2", "-1/-2", "1/+2", "-",
            "--1", "1-", "/", "1/", "/2", "1/2/3", "-/2", "-0/2", "-0/1", "01", "00", "-01", "1/02", "01/2", "1/00", "1.0",
            "1_0", "1e3", "0x1", "x", "", "\t1", "1\n", "1,", "\u0663", "\u00b2", "\uff11", "1/\u0663", "\u2212" + "1",
            "%", "1%2", "None", "True", "\u00bd",
        ):
            for text in ("times {} row 0", "put {} row 0", "row 1 {} 0", "row 1 0 {}"):
                self.refuse(text.format(word))
            for text in ("shift {} row 0", "every {} 1 row 0", "every 1 {} row 0", "row {} 1 1", "weave {} row 0"):
                self.refuse(text.format(word))

    def test_integers_that_are_not_there(self):
        for text in (
            "every 0 1 row 0", "every -1 1 row 0", "every 1 -1 row 0", "every 1/2 1 row 0", "every 1 1/2 row 0",
            "shift -1 row 0", "shift 1/2 row 0", "weave 0", "weave 0 row 0", "weave -1 row 0", "weave 1/2 row 0",
            "row -1", "row -1 1 1", "row 1/2 1 1", "weave -0", "row -0",
        ):
            self.refuse(text)

    def test_counts_that_do_not_fit(self):
        for text in (
            "row", "row 1", "row 1 1", "row 0 1", "row 1 1 1 1", "row 2 1 1 0", "row 2 1 1 0 1 1", "row 999999999 1 1",
            "weave", "weave 1", "weave 2 row 0", "weave 1 row 0 row 0", "weave 999999999 row 0",
            "sum", "sum row 0", "sum row 0 row 0 row 0", "sums", "sums row 0 row 0", "times row 0", "times 1",
            "times 1 1 row 0", "shift row 0", "shift 1", "put row 0", "every 1 row 0", "every 1 2 3 row 0",
        ):
            self.refuse(text)

    def test_spaces_and_words_that_are_not_there(self):
        for text in ("", " ", "  ", "\n", "Row 0", "ROW 0", "rows 0", "row0", "sumrow 0 row 0", "0", "1", "1 row 0", "()", "row 0 x"):
            self.refuse(text)
        for _, text in LINES:
            for other in (
                f" {text}", f"{text} ", f"{text}\n", f"\n{text}", f"{text}\t", f"{text} {text}", f"{text} 0", f"{text} row",
                text.replace(" ", "  ", 1), text.replace(" ", "\t", 1), text.replace(" ", "\n"), text.replace(" ", "\u00a0"),
                text.replace(" ", ""), text.upper(), f"({text})", text.replace(" ", ", "),
            ):
                self.refuse(other)

    def test_signs_and_words_changed(self):
        # A text that is read is the text of what is read; what is not read is no such text.
        for _, text in LINES:
            words = text.split(" ")
            changed = [text[:i] + text[i + 1:] for i in range(len(text))]
            changed += [text[:i] + sign + text[i:] for i in range(len(text) + 1) for sign in SIGNS]
            changed += [text[:i] + sign + text[i + 1:] for i in range(len(text)) for sign in SIGNS]
            changed += [text[:i] + text[i + 1:i + 2] + text[i:i + 1] + text[i + 2:] for i in range(len(text))]
            for i in range(len(words)):
                changed.append(" ".join(words[:i] + words[i + 1:]))
                changed.append(" ".join(words[:i] + words[i:i + 1] + words[i:]))
                changed.append(" ".join(words[:i] + words[i + 1:i + 2] + words[i:i + 1] + words[i + 2:]))
                for word in WORDS:
                    changed.append(" ".join(words[:i] + [word] + words[i:]))
                    changed.append(" ".join(words[:i] + [word] + words[i + 1:]))
            for other in changed:
                self.read_or_refused(other)

    def read_or_refused(self, text):
        try:
            e = read_row(text)
        except BadText as error:
            self.assertNotIsInstance(error, (NoFraction, NotWhole))
            return
        self.assertEqual(write_row(e), text)
        self.assertLessEqual(depth(e), 12)
        self.assertLess(largest(e), 10 ** 9)

    def test_some_changed_texts_are_read(self):
        for text, e in (
            ("row 1 1 2", row([1], [2])), ("row 2 1 1 0 -1", row([1, 1], [0, -1])), ("sum row 0 row 0", ("sum", NOTHING, NOTHING)),
            ("put 10/3 row 0", ("put", (10, 3), NOTHING)), ("row 1 1/10 9", ("row", pairs("1/10"), pairs(9))),
        ):
            self.assertEqual(read_row(text), e)

    def test_no_argument_is_changed(self):
        for e, text in LINES:
            before = copy.deepcopy(e)
            self.assertEqual(read_row(write_row(e)), before)
            self.assertEqual(e, before)
            self.assertEqual(write_row(e), text)


if __name__ == "__main__":
    unittest.main()
