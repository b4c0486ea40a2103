"""The errors of the program."""

import unittest

from sumsplay.errors import BadText, BadValue, NoMove, PlayError, Unknown

FOUR = (BadValue, BadText, Unknown, NoMove)


class ErrorsTest(unittest.TestCase):
    def test_play_error_is_a_value_error(self):
        self.assertTrue(issubclass(PlayError, ValueError))

    def test_each_of_the_four_is_a_play_error_and_a_value_error(self):
        for error in FOUR:
            self.assertTrue(issubclass(error, PlayError))
            self.assertTrue(issubclass(error, ValueError))
            self.assertIsNot(error, PlayError)

    def test_none_of_the_four_is_under_another_one(self):
        for error in FOUR:
            for other in FOUR:
                self.assertEqual(issubclass(error, other), error is other)

    def test_they_are_raised_and_caught(self):
        for error in FOUR:
            with self.assertRaises(PlayError):
                raise error("so")
            with self.assertRaises(ValueError):
                raise error("so")


if __name__ == "__main__":
    unittest.main()
