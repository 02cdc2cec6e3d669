"""Point [5]: the errors."""

import unittest

from rowalone import errors
from tests.helpers import odd_values

PARAMETERS = {
    "InvalidSystem": "at", "InvalidText": "at", "InvalidBox": "at", "InvalidPoint": "at", "InvalidPaper": "at",
    "InvalidNumber": "word", "Refused": "word",
}


class Errors(unittest.TestCase):

    def test_row_error_is_a_value_error(self):
        self.assertTrue(issubclass(errors.RowError, ValueError))
        self.assertIsNot(errors.RowError, ValueError)

    def test_all_others_are_direct_subclasses(self):
        for word in PARAMETERS:
            self.assertEqual(getattr(errors, word).__bases__, (errors.RowError,))

    def test_none_is_derived_from_another_one(self):
        kinds = [getattr(errors, word) for word in PARAMETERS]
        for kind in kinds:
            for other in kinds:
                self.assertEqual(issubclass(kind, other), kind is other)

    def test_each_keeps_its_argument(self):
        for word, parameter in PARAMETERS.items():
            for value in odd_values() + [3, "zero", -1]:
                error = getattr(errors, word)(value)
                self.assertIs(getattr(error, parameter), value)
                named = getattr(errors, word)(**{parameter: value})
                self.assertIs(getattr(named, parameter), value)
                self.assertEqual(list(vars(error)), [parameter])

    def test_the_argument_is_needed(self):
        for word in PARAMETERS:
            with self.assertRaises(TypeError):
                getattr(errors, word)()
            with self.assertRaises(TypeError):
                getattr(errors, word)(1, 2)

    def test_each_can_be_raised_and_caught(self):
        for word in PARAMETERS:
            with self.assertRaises(errors.RowError):
                raise getattr(errors, word)(2)


if __name__ == "__main__":
    unittest.main()
