"""[3] errors."""

import unittest

from restcounts import errors

FIELDS = {
    "BadText": ("column",), "BadLine": ("line", "column"), "BadNumber": ("what", "number"),
    "BadRow": ("row",), "BadName": ("name",), "Unlike": ("what",), "TooMany": ("what", "limit"),
    "TooLarge": ("what", "number", "limit"), "NoName": ("name",), "TakenName": ("name",),
    "NotKept": ("promise", "witness"), "NothingToUndo": (), "NothingToRedo": (),
}

VALUES = (None, "text", [1, [2]], {"a": []}, 10 ** 6000, -1, True, (), object(), float("nan"))


class Errors(unittest.TestCase):

    def test_count_error_is_a_value_error(self):
        self.assertTrue(issubclass(errors.CountError, ValueError))
        self.assertIn(ValueError, errors.CountError.__mro__)
        with self.assertRaises(ValueError):
            raise errors.CountError("why")

    def test_each_derives_directly_from_count_error(self):
        for name in FIELDS:
            with self.subTest(name):
                self.assertEqual(getattr(errors, name).__bases__, (errors.CountError,))
                self.assertEqual(getattr(errors, name).__module__, "restcounts.errors")

    def test_fields_are_kept_in_their_order(self):
        for name, fields in FIELDS.items():
            for at in range(len(VALUES)):
                values = [VALUES[(at + step) % len(VALUES)] for step in range(len(fields))]
                with self.subTest(name, at=at):
                    error = getattr(errors, name)(*values)
                    for field, value in zip(fields, values):
                        self.assertIs(getattr(error, field), value)
                    self.assertEqual(sorted(vars(error)), sorted(fields))

    def test_number_of_fields(self):
        for name, fields in FIELDS.items():
            if fields:
                with self.subTest(name), self.assertRaises(TypeError):
                    getattr(errors, name)(*fields[1:])
                with self.subTest(name), self.assertRaises(TypeError):
                    getattr(errors, name)(*fields, 0)

    def test_each_is_caught_by_its_own_name_and_by_count_error_only(self):
        for name, fields in FIELDS.items():
            error = getattr(errors, name)(*fields)
            caught = [other for other in FIELDS if isinstance(error, getattr(errors, other))]
            self.assertEqual(caught, [name])
            self.assertIsInstance(error, errors.CountError)


if __name__ == "__main__":
    unittest.main()
