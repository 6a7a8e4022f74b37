"""The interface of errors, and what point 2 says of every function."""

import unittest

from papersorliars import errors
from tests.helpers import FIELDS


class Errors(unittest.TestCase):

    def test_the_base_class_is_a_value_error(self):
        self.assertEqual(errors.BookError.__bases__, (ValueError,))

    def test_each_class_is_derived_directly_from_the_base_class(self):
        self.assertEqual(len(FIELDS), 17)
        for name in FIELDS:
            self.assertEqual(getattr(errors, name).__bases__, (errors.BookError,), name)

    def test_each_class_is_defined_in_the_file_of_errors(self):
        for name in [*FIELDS, "BookError"]:
            self.assertEqual(getattr(errors, name).__module__, "papersorliars.errors")
            self.assertEqual(getattr(errors, name).__name__, name)

    def test_the_attributes_have_the_names_of_the_parameters(self):
        for name, fields in FIELDS.items():
            values = [(k, "value", 10 ** 50) for k in range(len(fields))]
            by_place = getattr(errors, name)(*values)
            by_word = getattr(errors, name)(**dict(zip(fields, values)))
            for field, value in zip(fields, values):
                self.assertEqual(getattr(by_place, field), value)
                self.assertEqual(getattr(by_word, field), value)

    def test_an_error_can_be_caught_as_a_value_error_and_as_a_book_error(self):
        for name, fields in FIELDS.items():
            for base in (ValueError, errors.BookError, getattr(errors, name)):
                with self.assertRaises(base):
                    raise getattr(errors, name)(*range(len(fields)))

    def test_errors_of_great_numbers_can_be_made_and_shown(self):
        huge = 10 ** 199
        for name, fields in FIELDS.items():
            error = getattr(errors, name)(*[huge for _ in fields])
            self.assertEqual(getattr(error, fields[0]), huge)
            self.assertIsInstance(str(error), str)


if __name__ == "__main__":
    unittest.main()
