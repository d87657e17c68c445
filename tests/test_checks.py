"""What a value must be to be a name, a row or an index, for values of any kind."""

import unittest

from rankedrules.checks import are_names, is_any_row, is_index, is_name, is_row
from tests.values import HUGE, OTHER_KINDS


class ChecksTest(unittest.TestCase):

    def test_names(self):
        for name in ("a", "z", "abcdefgh", "zzzzzzzz"):
            self.assertIs(is_name(name), True)
        for name in ("", "abcdefghi", "A", "a1", "a b", " a", "a\n", "`", "{"):
            self.assertIs(is_name(name), False)

    def test_names_in_a_row(self):
        for names in (("a",), ("a", "b"), ("a", "aa", "ab", "b")):
            self.assertIs(are_names(names), True)
        for names in (("",), ("a", "a"), ("b", "a"), ("a", "c", "b"), ("a", 1), (None, "a"), (("a",),)):
            self.assertIs(are_names(names), False)

    def test_rows(self):
        for row in ("+", "-", ".", "+-.+-.+-"):
            self.assertIs(is_any_row(row), True)
            self.assertIs(is_row(row, len(row)), True)
            self.assertIs(is_row(row, len(row) + 1), False)
        for row in ("", "+" * 9, "+ ", "x"):
            self.assertIs(is_any_row(row), False)
            self.assertIs(is_row(row, len(row)), False)

    def test_indexes(self):
        for index in (0, 1, 2):
            self.assertIs(is_index(index, 3), True)
        for index in (3, -1, HUGE, -HUGE):
            self.assertIs(is_index(index, 3), False)
        self.assertIs(is_index(0, 0), False)

    def test_values_of_other_kinds(self):
        for value in OTHER_KINDS:
            with self.subTest(kind=value.__class__):
                self.assertIs(is_name(value), value == "x")
                self.assertIs(is_any_row(value), value == "+")
                self.assertIs(is_index(value, 2), value.__class__ is int and value in (0, 1))


if __name__ == "__main__":
    unittest.main()
