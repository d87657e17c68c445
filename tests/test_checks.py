"""What a value must be to be a name, a number, a row, a ranking or an index, for values of any kind."""

import unittest

from rankedrules.checks import (
    are_names, is_any_row, is_index, is_lot, is_name, is_number, is_pair, is_ranking, is_row,
)
from tests.values import HUGE, OTHER_KINDS


class ChecksTest(unittest.TestCase):

    def test_names(self):
        for name in ("a", "z", "abcdefgh", "zzzzzzzz"):
            self.assertIs(is_name(name), True)
        for name in ("", "abcdefghi", "A", "a1", "a b", " a", "a\n", "`", "{"):
            self.assertIs(is_name(name), False)

    def test_names_in_a_row(self):
        for names in (("a",), ("a", "b"), ("a", "aa", "ab", "b")):
            self.assertIs(are_names(names), True)
        for names in (("",), ("a", "a"), ("b", "a"), ("a", "c", "b"), ("a", 1), (None, "a"), (("a",),)):
            self.assertIs(are_names(names), False)

    def test_rows(self):
        for row in ("+", "-", ".", "+-.+-.+-"):
            self.assertIs(is_any_row(row), True)
            self.assertIs(is_row(row, len(row)), True)
            self.assertIs(is_row(row, len(row) + 1), False)
        for row in ("", "+" * 9, "+ ", "x"):
            self.assertIs(is_any_row(row), False)
            self.assertIs(is_row(row, len(row)), False)

    def test_indexes(self):
        for index in (0, 1, 2):
            self.assertIs(is_index(index, 3), True)
        for index in (3, -1, HUGE, -HUGE):
            self.assertIs(is_index(index, 3), False)
        self.assertIs(is_index(0, 0), False)

    def test_pairs(self):
        for one, other in ((0, 1), (1, 0), (0, 2), (2, 1)):
            self.assertIs(is_pair(one, other, 3), True)
        for one, other in ((0, 0), (2, 2), (0, 3), (3, 0), (-1, 0), (0, -1), (False, 1), (0, True), ("0", 1), (0, None)):
            self.assertIs(is_pair(one, other, 3), False)

    def test_lots(self):
        for lot in ((), (0,), (2,), (0, 1), (0, 2), (0, 1, 2)):
            self.assertIs(is_lot(lot, 3), True)
        for lot in ((3,), (-1,), (1, 0), (0, 0), (0, True), (False,), (0, "1"), (HUGE,), [0], [], "", 0, None):
            self.assertIs(is_lot(lot, 3), False)

    def test_numbers(self):
        for word in ("0", "1", "9", "10", "99", "100", "12345678901234567890"):
            self.assertIs(is_number(word), True)
        for word in ("", "00", "01", "-1", "+1", " 1", "1 ", "1\n", "1.0", "1_0", "a", "0x1", "\u00b2", "\u0663"):
            self.assertIs(is_number(word), False)

    def test_rankings(self):
        for ranking in ((0,), (1, 0), (2, 0, 1), tuple(range(8))):
            self.assertIs(is_ranking(ranking, len(ranking)), True)
            self.assertIs(is_ranking(ranking, len(ranking) + 1), False)
        for ranking in ((), (1,), (0, 0), (0, 2), (-1, 0), (False, True), (0, "1"), (HUGE, 0), [0, 1]):
            self.assertIs(is_ranking(ranking, max(1, len(ranking))), False)

    def test_values_of_other_kinds(self):
        for value in OTHER_KINDS:
            with self.subTest(kind=value.__class__):
                self.assertIs(is_name(value), value == "x")
                self.assertIs(is_any_row(value), value == "+")
                self.assertIs(is_ranking(value, 1), value == (0,))
                self.assertIs(is_index(value, 2), value.__class__ is int and value in (0, 1))


if __name__ == "__main__":
    unittest.main()
