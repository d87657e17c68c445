"""Rows that may be wrong: what to strike, how many are wrong, and what is sure all the same."""

import random

from rankedrules.books import Book
from rankedrules.doubts import fewest_wrong, follows_with, struck, surely_wrong
from rankedrules.errors import InvalidNumber, InvalidRow, NoRanking, TooMany
from rankedrules.layers import quarrel
from tests.arguments import NO_BOOKS, WRONG_MOST, WRONG_ROWS, ArgumentsCase
from tests.brute import (
    all_books, all_rows, book_of, drawn_books, drawn_row, fitting_rows, holds_for, parts, small_books, told_books,
)
from tests.values import HUGE, error_of

EIGHT = "a b c d e f g h:"
BOOKS = small_books() + all_books(2, 3)[::4] + drawn_books(61, 40, (3, 4)) + drawn_books(62, 8, (5,))
WIDE_BOOKS = drawn_books(63, 2, (6,)) + drawn_books(64, 1, (7,)) + told_books(65, 1, (7, 8))


def wrong_rows(book):
    """For each ranking the indexes of the rows that do not hold."""
    many = len(book.names)
    return {
        ranking: {index for index, row in enumerate(book.rows) if not holds_for(row, ranking)}
        for ranking in fitting_rows(many, ())
    }


def struck_by_words(book):
    """All least lots of rows without which some ranking fits, by going through all lots."""
    many = len(book.names)
    lots = []
    for lot in parts(range(len(book.rows))):
        if not any(set(one) <= set(lot) for one in lots):
            if fitting_rows(many, tuple(row for index, row in enumerate(book.rows) if index not in lot)):
                lots.append(lot)
    return tuple(lots)


def full(text, rows):
    """The book with the rows again and again, up to twenty of them."""
    return Book(" ".join([text, *(rows * 20)[:20]]))


class StruckTest(ArgumentsCase):

    def test_all_lots_gone_through(self):
        for book in BOOKS:
            if len(book.rows) <= 10:
                with self.subTest(text=book.text):
                    self.assertEqual(struck(book), struck_by_words(book))

    def test_ten_rows(self):
        draw = random.Random(66)
        for many in (1, 2, 3, 4):
            book = book_of(many, [drawn_row(draw, many, "+-.") for _ in range(10)])
            with self.subTest(text=book.text):
                self.assertEqual(struck(book), struck_by_words(book))

    def test_edges(self):
        for text, lots in {
                "a:": ((),), "a: +": ((),), "a: -": ((0,),), "a: - -": ((0, 1),), "a: - + - .": ((0, 2),),
                "a b: +- -+": ((0,), (1,)), "a b: +- -+ +-": ((1,), (0, 2)), "a b: -. -- +-": ((0, 1),),
                "a b: -. ++": ((0,),), "a b c: +-. .+- -.+": ((0,), (1,), (2,)), EIGHT: ((),),
                "a b c: +-. .+- -.+ +-.": ((1,), (2,), (0, 3)), EIGHT + " ........" * 10: ((),),
                EIGHT + " --------" * 10: (tuple(range(10)),),
                "a b:" + " +-" * 5 + " -+" * 5: ((0, 1, 2, 3, 4), (5, 6, 7, 8, 9)),
                "a b:" + " +- -+" * 5: ((0, 2, 4, 6, 8), (1, 3, 5, 7, 9)),
        }.items():
            with self.subTest(text=text):
                self.assertEqual(struck(Book(text)), lots)

    def test_eleven_rows_and_more(self):
        for many in range(8, 21):
            for row in ("+-", "--", ".."):
                book = Book("a b:" + f" {row}" * many)
                with self.subTest(many=many, row=row):
                    if many > 10:
                        self.assertEqual(error_of(struck, book), (TooMany, {"number": many}))
                    else:
                        self.assertEqual(struck(book), ((tuple(range(many)) if row == "--" else ()),))

    def test_each_lot_meets_the_rows_that_quarrel(self):
        for book in drawn_books(67, 20, (3, 4)):
            lot = quarrel(book)
            if lot is not None:
                for rows in struck(book):
                    self.assertTrue(set(rows) & set(lot), book.text)

    def test_arguments(self):
        for text in ("a b c: ++-", "a b c: +-. -+.", "a b c:"):
            self.check_arguments(struck, {"book": Book(text)}, {"book": NO_BOOKS})


class FewestWrongTest(ArgumentsCase):

    def test_all_rankings_gone_through(self):
        for book in BOOKS + WIDE_BOOKS:
            with self.subTest(text=book.text):
                self.assertEqual(fewest_wrong(book), min(map(len, wrong_rows(book).values())))

    def test_edges(self):
        for text, number in {
                "a:": 0, "a: -": 1, "a: - -": 2, "a: - + . -": 2, "a b: -. -- +-": 2, "a b: +- -+ +-": 1,
                "a b c: +-. .+- -.+": 1, EIGHT: 0, EIGHT + " --------" * 20: 20, EIGHT + " ........" * 20: 0,
                EIGHT + " +-......" * 10 + " -+......" * 10: 10, EIGHT + " +-......" * 9 + " -+......" * 11: 9,
        }.items():
            with self.subTest(text=text):
                self.assertEqual(fewest_wrong(Book(text)), number)

    def test_it_is_the_length_of_the_shortest_lot_to_strike(self):
        for book in BOOKS:
            if len(book.rows) <= 10:
                self.assertEqual(fewest_wrong(book), len(struck(book)[0]), book.text)

    def test_twenty_rows(self):
        draw = random.Random(68)
        for many in (3, 5, 6):
            for signs in ("+-.", "+-", "+-...."):
                book = book_of(many, [drawn_row(draw, many, signs) for _ in range(20)])
                with self.subTest(text=book.text):
                    self.assertEqual(fewest_wrong(book), min(map(len, wrong_rows(book).values())))

    def test_arguments(self):
        for text in ("a b c: ++-", "a b c: +-. -+.", "a b c:"):
            self.check_arguments(fewest_wrong, {"book": Book(text)}, {"book": NO_BOOKS})


def asked_for(book, most):
    """The wrong rows of each ranking for which at most so many rows do not hold."""
    return {ranking: rows for ranking, rows in wrong_rows(book).items() if len(rows) <= most}


class SurelyWrongTest(ArgumentsCase):

    def test_all_rankings_gone_through(self):
        for book in BOOKS + WIDE_BOOKS:
            for most in (0, 1, 2, 3, 5, len(book.rows), 20):
                told = asked_for(book, most).values()
                rows = tuple(sorted(set.intersection(*told))) if told else None
                with self.subTest(text=book.text, most=most):
                    self.assertEqual(surely_wrong(book, most), rows)

    def test_edges(self):
        ring = "a b c: +-. .+- -.+"
        for text, most, rows in (
                ("a:", 0, ()), ("a:", 20, ()), ("a: -", 0, None), ("a: -", 1, (0,)), ("a: -", 20, (0,)),
                ("a: - + - .", 1, None), ("a: - + - .", 2, (0, 2)), ("a b: -. ++", 0, None), ("a b: -. ++", 1, (0,)),
                ("a b: -+ +- +- +-", 1, (0,)), ("a b: -+ +- +- +-", 2, (0,)), ("a b: -+ +- +- +-", 3, ()),
                ("a b: -- +-", 1, (0,)), (ring, 0, None), (ring, 1, ()), (ring, 3, ()),
                (EIGHT + " --------" * 20, 19, None), (EIGHT + " --------" * 20, 20, tuple(range(20))),
                (EIGHT + " ........" * 20, 0, ()), (EIGHT + " -+......" + " +-......" * 19, 18, (0,)),
                (EIGHT + " -+......" + " +-......" * 19, 19, ())):
            with self.subTest(text=text, most=most):
                self.assertEqual(surely_wrong(Book(text), most), rows)

    def test_what_is_surely_wrong_is_wrong_in_each_way_to_mend_the_book(self):
        for book in BOOKS:
            if len(book.rows) <= 10:
                for most in (1, 2, 4):
                    rows = surely_wrong(book, most)
                    for lot in struck(book):
                        if rows is not None and len(lot) <= most:
                            self.assertLessEqual(set(rows), set(lot), (book.text, most))

    def test_each_number_from_0_to_20_and_beyond(self):
        book = full("a b c:", ("+-.", "-+.", "---"))
        for most in range(-5, 30):
            with self.subTest(most=most):
                if not 0 <= most <= 20:
                    self.assertEqual(error_of(surely_wrong, book, most), (InvalidNumber, {"given": most}))
                else:
                    told = asked_for(book, most).values()
                    rows = tuple(sorted(set.intersection(*told))) if told else None
                    self.assertEqual(surely_wrong(book, most), rows)

    def test_arguments(self):
        for text in ("a b c: ++-", "a b c: +-. -+.", "a b c:"):
            for most in (0, 1, 20):
                right = {"book": Book(text), "most": most}
                self.check_arguments(surely_wrong, right, {"book": NO_BOOKS, "most": WRONG_MOST})


class FollowsWithTest(ArgumentsCase):

    def test_all_rankings_gone_through(self):
        for book in BOOKS + WIDE_BOOKS[:2]:
            many = len(book.names)
            for row in all_rows(many)[::1 if many < 3 else 4 if many < 5 else 35]:
                for most in (0, 1, 2, len(book.rows)):
                    told = asked_for(book, most)
                    with self.subTest(text=book.text, row=row, most=most):
                        if told:
                            holds = all(holds_for(row, ranking) for ranking in told)
                            self.assertIs(follows_with(book, row, most), holds)
                        else:
                            self.assertEqual(error_of(follows_with, book, row, most), (NoRanking, {}))

    def test_edges(self):
        for text, row, most, told in (
                ("a:", "+", 0, True), ("a:", ".", 0, True), ("a:", "-", 0, False), ("a: -", "-", 1, False),
                ("a: -", ".", 1, True), ("a b: +-", "+-", 0, True), ("a b: +-", "+-", 1, False),
                ("a b: +- +-", "+-", 1, True), ("a b: +- +-", "+-", 2, False), ("a b: +- +- -+", "+-", 1, True),
                ("a b: +- -+", "++", 1, True), ("a b: +- -+", "..", 20, True), ("a b: +- -+", "--", 20, False),
                (EIGHT + " +-......" * 20, "+-......", 19, True), (EIGHT + " +-......" * 20, "+-......", 20, False),
                (EIGHT + " ........" * 20, "........", 0, True), (EIGHT + " --------" * 20, "++++++++", 20, True)):
            with self.subTest(text=text, row=row, most=most):
                self.assertIs(follows_with(Book(text), row, most), told)

    def test_no_ranking_comes_last(self):
        book = Book("a b: +- -+ --")
        for row in ("+-", "..", "++"):
            for most in (0, 1):
                self.assertEqual(error_of(follows_with, book, row, most), (NoRanking, {}))
            self.assertIsNot(follows_with(book, row, 2), None)
            for most in (-1, 21, True, "0", None, HUGE):
                self.assertEqual(error_of(follows_with, book, row, most), (InvalidNumber, {"given": most}))
        for row in ("+", "+-.", None, ["+", "-"]):
            self.assertEqual(error_of(follows_with, book, row, 0), (InvalidRow, {"given": row}))
            self.assertEqual(error_of(follows_with, book, row, -1), (InvalidRow, {"given": row}))

    def test_arguments(self):
        for text, most in (("a b c: ++-", 0), ("a b c: +-. -+.", 1), ("a b c:", 20)):
            right = {"book": Book(text), "row": "+-.", "most": most}
            wrong = {"book": NO_BOOKS, "row": WRONG_ROWS, "most": WRONG_MOST}
            self.check_arguments(follows_with, right, wrong)

    def test_what_follows_with_more_wrong_rows_follows_with_fewer(self):
        for book in drawn_books(69, 15, (3,)):
            least = fewest_wrong(book)
            for row in all_rows(3):
                told = [follows_with(book, row, most) for most in range(least, 21)]
                self.assertEqual(told, sorted(told, reverse=True), (book.text, row))
