"""Point 4: the classes of errors and their fields."""

import unittest

from finallycopies import errors
from finallycopies.errors import CopyError

FIELDS = {
    "InvalidCode": "number",
    "InvalidNumber": "number",
    "InvalidAnswers": "at",
    "InvalidWay": "way",
    "InvalidTable": "at",
    "InvalidFinals": "at",
    "InvalidBound": "bound",
    "InvalidText": "at",
    "NotWaiting": "end",
    "LimitExceeded": "limit",
}
VALUES = (0, -1, 10**40, True, None, "end", b"x", (), ("break", 1), [], [[1]], {}, {1}, object())


class Errors(unittest.TestCase):
    def test_copy_error(self):
        self.assertEqual(CopyError.__bases__, (ArithmeticError,))
        self.assertIsInstance(CopyError(), CopyError)
        with self.assertRaises(ArithmeticError):
            raise CopyError()

    def test_all_are_direct_subclasses_of_copy_error(self):
        for name in FIELDS:
            with self.subTest(name=name):
                self.assertEqual(getattr(errors, name).__bases__, (CopyError,))

    def test_all_are_defined_in_the_file(self):
        for name in ["CopyError"] + list(FIELDS):
            with self.subTest(name=name):
                self.assertEqual(getattr(errors, name).__module__, "finallycopies.errors")
                self.assertEqual(getattr(errors, name).__name__, name)

    def test_fields_by_position(self):
        for name, field in FIELDS.items():
            for value in VALUES:
                with self.subTest(name=name, value=value):
                    self.assertIs(getattr(getattr(errors, name)(value), field), value)

    def test_fields_by_name(self):
        for name, field in FIELDS.items():
            for value in VALUES:
                with self.subTest(name=name, value=value):
                    made = getattr(errors, name)(**{field: value})
                    self.assertIs(getattr(made, field), value)

    def test_no_other_arguments(self):
        for name, field in FIELDS.items():
            with self.subTest(name=name):
                made = getattr(errors, name)
                self.assertRaises(TypeError, made)
                self.assertRaises(TypeError, made, 1, 2)
                self.assertRaises(TypeError, made, **{field + "x": 1})

    def test_each_is_caught_as_itself_and_as_what_is_above(self):
        for name in FIELDS:
            made = getattr(errors, name)
            for caught in (made, CopyError, ArithmeticError):
                with self.subTest(name=name, caught=caught):
                    with self.assertRaises(caught):
                        raise made([])

    def test_none_is_another_one(self):
        for name in FIELDS:
            for other in FIELDS:
                if other != name:
                    self.assertNotIsInstance(getattr(errors, name)(1), getattr(errors, other))


if __name__ == "__main__":
    unittest.main()
