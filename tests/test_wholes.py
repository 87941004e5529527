"""Point 2: what an integer is."""

import enum
import unittest

from finallycopies.wholes import is_integer


class Color(enum.IntEnum):
    RED = 1


class Integers(unittest.TestCase):
    def test_integers(self):
        for value in (0, 1, -1, 400, 10**40, -(10**40), Color.RED):
            with self.subTest(value=value):
                self.assertIs(is_integer(value), True)

    def test_true_and_false_are_no_integers(self):
        self.assertIs(is_integer(True), False)
        self.assertIs(is_integer(False), False)

    def test_other_values_are_no_integers(self):
        others = (None, "", "1", b"1", (), (1,), [], [1], {}, {1}, 1j, 1.0, object(), int)
        for value in others:
            with self.subTest(value=value):
                self.assertIs(is_integer(value), False)

    def test_by_name(self):
        self.assertIs(is_integer(value=3), True)

    def test_stands_in_its_file(self):
        self.assertEqual(is_integer.__module__, "finallycopies.wholes")


if __name__ == "__main__":
    unittest.main()
