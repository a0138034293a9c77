import unittest

from rowsworn.errors import BadText, NoFraction, NotWhole, RowError


class ErrorsTest(unittest.TestCase):
    def test_the_base_class_is_a_value_error(self):
        self.assertTrue(issubclass(RowError, ValueError))

    def test_each_error_is_a_row_error_and_none_of_the_others(self):
        told = [NotWhole(3), NoFraction("by 0"), BadText("no text")]
        for error in told:
            self.assertIsInstance(error, RowError)
            self.assertIsInstance(error, ValueError)
            for kind in (NotWhole, NoFraction, BadText):
                self.assertEqual(isinstance(error, kind), kind is error.__class__)

    def test_the_base_class_is_none_of_the_others(self):
        for kind in (NotWhole, NoFraction, BadText):
            self.assertFalse(issubclass(RowError, kind))

    def test_not_whole_has_its_place_from_the_start(self):
        for place in (0, 7, 10 ** 40):
            self.assertEqual(NotWhole(place).place, place)

    def test_not_whole_is_caught_with_its_place(self):
        with self.assertRaises(RowError) as caught:
            raise NotWhole(12)
        self.assertEqual(caught.exception.place, 12)


if __name__ == "__main__":
    unittest.main()
