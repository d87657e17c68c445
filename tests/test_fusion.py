"""The opposite of a row, and the fusion of rows."""

import inspect
import unittest
from itertools import combinations, product

from rankedrules.books import Book, fusion, opposite
from rankedrules.errors import InvalidLot, InvalidRow, NotABook
from tests.values import HUGE, OTHER_KINDS, error_of, raised


class OppositeTest(unittest.TestCase):

    def test_each_sign(self):
        self.assertEqual([opposite(row) for row in ("+", "-", ".")], ["-", "+", "."])

    def test_rows_of_one_to_eight_signs(self):
        for many in range(1, 9):
            row = "+-.-+.+-"[:many]
            with self.subTest(row=row):
                self.assertEqual(opposite(row), "-+.+-.-+"[:many])
                self.assertEqual(opposite(row=row), "-+.+-.-+"[:many])

    def test_the_opposite_of_the_opposite_is_the_row(self):
        for signs in product("+-.", repeat=4):
            row = "".join(signs)
            self.assertEqual(opposite(opposite(row)), row)
            self.assertEqual([one == "." for one in opposite(row)], [one == "." for one in row])

    def test_a_wrong_row(self):
        for row in ("", "+" * 9, "." * 20, "x", "+ ", " +", "+ -", "+\n", "+x-", "0", "--*", "a b: ++"):
            with self.subTest(row=row):
                self.assertEqual(error_of(opposite, row), (InvalidRow, {"given": row}))
                self.assertEqual(error_of(opposite, row=row), (InvalidRow, {"given": row}))

    def test_a_row_of_another_kind(self):
        for value in (*OTHER_KINDS, ("+", "-"), b"+-"):
            if value != "+":
                with self.subTest(kind=value.__class__):
                    error = raised(opposite, value)
                    self.assertIs(error.__class__, InvalidRow)
                    self.assertIs(error.given, value)


def fused(rows, many):
    """The fusion, worked out sign by sign."""
    signs = ["."] * many
    for row in rows:
        for rule, sign in enumerate(row):
            signs[rule] = max(signs[rule], sign, key=".+-".index)
    return "".join(signs)


class FusionTest(unittest.TestCase):

    def test_all_pairs_of_signs(self):
        signs = {
            "++": "+", "+-": "-", "+.": "+", "-+": "-", "--": "-", "-.": "-", ".+": "+", ".-": "-", "..": ".",
        }
        for pair, sign in signs.items():
            with self.subTest(pair=pair):
                self.assertEqual(fusion(Book(f"a: {pair[0]} {pair[1]}"), (0, 1)), sign)

    def test_of_no_rows(self):
        self.assertEqual(fusion(Book("a: -"), ()), ".")
        self.assertEqual(fusion(Book("a:"), ()), ".")
        self.assertEqual(fusion(Book("a b c d e f g h: ++++----"), ()), "........")

    def test_of_one_row_it_is_this_row(self):
        book = Book("a b c: +-. .+- ---")
        self.assertEqual([fusion(book, (index,)) for index in range(3)], ["+-.", ".+-", "---"])

    def test_of_some_rows_and_of_all(self):
        rows = ("+-..", ".+-.", "+...", "....", "..++")
        book = Book("a b c d: " + " ".join(rows))
        for size in range(6):
            for lot in combinations(range(5), size):
                with self.subTest(lot=lot):
                    expected = fused([rows[index] for index in lot], 4)
                    self.assertEqual(fusion(book, lot), expected)
                    self.assertEqual(fusion(book=book, lot=lot), expected)

    def test_of_twenty_rows(self):
        book = Book("a b c d e f g h:" + " +......." * 10 + " .-......" * 9 + " +.....+.")
        self.assertEqual(fusion(book, tuple(range(20))), "+-....+.")
        self.assertEqual(fusion(book, tuple(range(10))), "+.......")
        self.assertEqual(fusion(book, (19,)), "+.....+.")

    def test_the_book_stays_as_it_is(self):
        book = Book("a b: +- -+")
        self.assertEqual(fusion(book, (0, 1)), fusion(book, (0, 1)))
        self.assertEqual(book.rows, ("+-", "-+"))


class WrongLotTest(unittest.TestCase):

    def check(self, lot, index, book=Book("a b c: +-. .+- +++")):
        with self.subTest(kind=lot.__class__, index=index):
            self.assertEqual(error_of(fusion, book, lot), (InvalidLot, {"index": index}))
            self.assertEqual(error_of(fusion, lot=lot, book=book), (InvalidLot, {"index": index}))

    def test_out_of_order_or_twice(self):
        for lot, index in (
                ((1, 0), 1), ((0, 0), 1), ((0, 2, 1), 2), ((0, 1, 1), 2), ((0, 1, 2, 0), 3), ((2, 1, 0), 1),
                ((2, 2, 2), 1), ((1, 2, 2, 0), 2)):
            self.check(lot, index)

    def test_beyond_the_rows(self):
        for lot, index in (
                ((3,), 0), ((0, 3), 1), ((0, 1, 2, 3), 3), ((-1,), 0), ((0, -1), 1), ((-1, 0), 0), ((20,), 0),
                ((HUGE,), 0), ((0, HUGE), 1), ((-HUGE, 0), 0), ((3, 3), 0)):
            self.check(lot, index)
        self.check((0,), 0, Book("a:"))
        self.check((0, 1, 2), 1, Book("a: +"))

    def test_an_element_of_another_kind(self):
        for value in OTHER_KINDS:
            if value.__class__ is not int:
                self.check((value,), 0)
                self.check((0, value, 1), 1)
                self.check((0, 1, 2, value), 3)

    def test_the_first_wrong_element_is_told(self):
        self.check((0, "1", -1, 0), 1)
        self.check((0, 0, "1"), 1)
        self.check((1, 2, True, None), 2)

    def test_no_tuple(self):
        for value in (*OTHER_KINDS, [0, 1], "01", b"\x00", {0: 0}, range(2)):
            if value.__class__ is not tuple:
                self.check(value, None)

    def test_tuples_of_other_things(self):
        self.check(("+",), 0)
        self.check(((0,), [1]), 0)

    def test_no_book(self):
        for value in (*OTHER_KINDS, "a b c: +-."):
            if not isinstance(value, Book):
                for lot in ((), (0,), [0], None):
                    with self.subTest(kind=value.__class__, lot=lot):
                        error = raised(fusion, value, lot)
                        self.assertIs(error.__class__, NotABook)
                        self.assertIs(error.given, value)

    def test_the_parameters_have_the_listed_names(self):
        self.assertEqual(list(inspect.signature(fusion).parameters), ["book", "lot"])
        self.assertEqual(list(inspect.signature(opposite).parameters), ["row"])


if __name__ == "__main__":
    unittest.main()
