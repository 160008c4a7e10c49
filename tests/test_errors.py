"""Point 2: the exceptions and their one text."""

import unittest

from edenrow import errors
from edenrow.errors import BadCommand, BadMachine, BadMap, OutOfRange, RowError, TooLong

FIVE = [BadMap, BadMachine, OutOfRange, TooLong, BadCommand]


class ErrorsTest(unittest.TestCase):
    def test_each_takes_one_text_that_str_returns(self):
        for error in [RowError] + FIVE:
            for text in ["the text", "", "two\nlines", "(1, 2)", "{0} \\ '"]:
                self.assertEqual(str(error(text)), text)

    def test_each_can_be_raised_and_caught_as_row_error(self):
        for error in [RowError] + FIVE:
            with self.assertRaises(RowError) as caught:
                raise error("why")
            self.assertEqual(str(caught.exception), "why")
            self.assertIs(caught.exception.__class__, error)

    def test_row_error_is_a_value_error(self):
        self.assertTrue(issubclass(RowError, ValueError))
        for error in FIVE:
            self.assertTrue(issubclass(error, RowError))
            self.assertIsNot(error, RowError)

    def test_none_of_the_five_is_one_of_another(self):
        for error in FIVE:
            for other in FIVE:
                self.assertEqual(issubclass(error, other), error is other)

    def test_names_and_file(self):
        names = ["RowError", "BadMap", "BadMachine", "OutOfRange", "TooLong", "BadCommand"]
        for name in names:
            error = getattr(errors, name)
            self.assertEqual(error.__name__, name)
            self.assertEqual(error.__module__, "edenrow.errors")


if __name__ == "__main__":
    unittest.main()
