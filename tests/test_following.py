"""What follows for all rankings that fit, the reasons, needless rows and books that are alike."""

import unittest
from itertools import permutations

from rankedrules.books import Book
from rankedrules.errors import InvalidRow, InvalidRule, NoRanking, NotABook
from rankedrules.following import above, alike, judge, needless, reasons
from rankedrules.rankings import how_many
from tests.arguments import NO_BOOKS, WRONG_ROWS, WRONG_RULES, ArgumentsCase
from tests.brute import (
    all_books, all_rows, book_of, drawn_books, fitting, fitting_rows, holds_for, parts, rules_above, small_books,
    told_books,
)
from tests.values import error_of

EIGHT = "a b c d e f g h:"
QUARRELLING = ("a: -", "a b: +- -+", "a b c: +-. .+- -.+", "a b:" + " .." * 19 + " --", EIGHT + " --------")
BOOKS = small_books() + drawn_books(21, 40, (3, 4, 5)) + told_books(22, 10, (3, 4, 5, 6))
WIDE_BOOKS = told_books(23, 2, (7, 8))


def fitting_ones(books):
    """The books that some ranking fits, each with the rankings."""
    return [(book, fitting(book)) for book in books if fitting(book)]


def judged(fit, row):
    """What is told of a row by the rankings that fit."""
    told = {holds_for(row, ranking) for ranking in fit}
    return "open" if len(told) == 2 else "sure" if True in told else "never"


def is_reason(fit, lot, rule):
    """Whether in each ranking some rule of the lot is above this one."""
    return all(set(rules_above(ranking, rule)) & set(lot) for ranking in fit)


def least_reasons(fit, rule, many):
    """All least reasons, by going through all lots."""
    others = [other for other in range(many) if other != rule]
    lots = [lot for lot in parts(others) if is_reason(fit, lot, rule)]
    return tuple(lot for lot in lots if not any(set(one) < set(lot) for one in lots))


class JudgeTest(ArgumentsCase):

    def test_each_row_of_small_books(self):
        for book, fit in fitting_ones(BOOKS):
            if len(book.names) < 5:
                for row in all_rows(len(book.names)):
                    self.assertEqual(judge(book, row), judged(fit, row), (book.text, row))

    def test_rows_of_wider_books(self):
        for book, fit in fitting_ones(BOOKS + WIDE_BOOKS):
            many = len(book.names)
            for row in ("+-......"[:many], "." * many, ("-+" * 4)[:many], ".-" + "+" * (many - 2), *book.rows[:2]):
                row = (row + "." * many)[:many]
                self.assertEqual(judge(book, row), judged(fit, row), (book.text, row))

    def test_what_is_open_holds_for_one_and_not_for_another_one(self):
        book = Book("a b c: ++-")
        self.assertEqual(judge(book, "+-."), "open")
        self.assertEqual({holds_for("+-.", ranking) for ranking in fitting(book)}, {True, False})

    def test_edges(self):
        for text, row, told in (
                ("a:", "+", "sure"), ("a:", ".", "sure"), ("a:", "-", "never"), ("a b:", "..", "sure"),
                ("a b:", "++", "sure"), ("a b:", "--", "never"), ("a b:", "+-", "open"), ("a b: +-", "+-", "sure"),
                ("a b: +-", "-+", "never"), (EIGHT, "+++++++-", "open"), (EIGHT + " +-......" * 20, "+-......", "sure"),
                (EIGHT + " +-......" * 20, "-+......", "never"), (EIGHT + " ........" * 20, "-+......", "open"),
                (EIGHT + " ........" * 20, "........", "sure")):
            with self.subTest(text=text, row=row):
                self.assertEqual(judge(Book(text), row), told)

    def test_no_ranking_comes_last(self):
        for text in QUARRELLING:
            book = Book(text)
            many = len(book.names)
            for row in ("." * many, "+" * many, "-" * many):
                self.assertEqual(error_of(judge, book, row), (NoRanking, {}))
            for row in ("", "+" * (many + 1), None, ["+"]):
                self.assertEqual(error_of(judge, book, row), (InvalidRow, {"given": row}))

    def test_arguments(self):
        right = {"book": Book("a b c: ++-"), "row": "+-."}
        self.check_arguments(judge, right, {"book": NO_BOOKS, "row": WRONG_ROWS})


class AboveTest(ArgumentsCase):

    def test_all_rankings_gone_through(self):
        for book, fit in fitting_ones(BOOKS + WIDE_BOOKS):
            with self.subTest(text=book.text):
                pairs = permutations(range(len(book.names)), 2)
                told = tuple((a, b) for a, b in pairs if all(one.index(a) < one.index(b) for one in fit))
                self.assertEqual(above(book), told)

    def test_edges(self):
        for text, pairs in {
                "a:": (), "a: +": (), "a b:": (), "a b: +-": ((0, 1),), "a b: -+": ((1, 0),), "a b: ++": (),
                "a b c: ++-": (), "a b c: ++- -+.": ((1, 0), (1, 2)), EIGHT: (),
                EIGHT + " ........" * 20: (), EIGHT + " +-------": tuple((0, rule) for rule in range(1, 8)),
                EIGHT + " -------+": tuple((7, rule) for rule in range(7)),
        }.items():
            with self.subTest(text=text):
                self.assertEqual(above(Book(text)), pairs)

    def test_no_ranking(self):
        for text in QUARRELLING:
            self.assertEqual(error_of(above, Book(text)), (NoRanking, {}))

    def test_arguments(self):
        self.check_arguments(above, {"book": Book("a b c: +--")}, {"book": NO_BOOKS})


class ReasonsTest(ArgumentsCase):

    def test_all_least_lots_in_their_order(self):
        for book, fit in fitting_ones(BOOKS + told_books(24, 3, (5, 6))):
            many = len(book.names)
            for rule in range(many):
                with self.subTest(text=book.text, rule=rule):
                    self.assertEqual(reasons(book, rule), least_reasons(fit, rule, many))

    def test_reasons_of_wide_books_are_reasons_and_least(self):
        for book, fit in fitting_ones(WIDE_BOOKS):
            for rule in (0, len(book.names) - 1):
                for lot in reasons(book, rule):
                    self.assertTrue(is_reason(fit, lot, rule), (book.text, lot))
                    for one in lot:
                        fewer = tuple(other for other in lot if other != one)
                        self.assertFalse(is_reason(fit, fewer, rule), (book.text, lot))

    def test_edges(self):
        for text, rule, told in (
                ("a:", 0, ()), ("a: +", 0, ()), ("a b:", 1, ()), ("a b: +-", 1, ((0,),)), ("a b: +-", 0, ()),
                ("a b c: ++-", 2, ((0, 1),)), ("a b c: ++- -+.", 2, ((1,),)), ("a b c: ++- -+.", 0, ((1,),)),
                ("a b c d: ++.- .++-", 3, ((0, 1), (1, 2))), ("a b c d: .-++ +-+.", 1, ((0, 2), (2, 3))),
                ("a b c d: .-++ +-.+ +-+.", 1, ((0, 2), (0, 3), (2, 3))), (EIGHT, 3, ()),
                ("a b c d e: .++.- +..+-", 4, ((0, 3), (1, 2))), ("a b c d e: -+++. -...+", 0, ((4,), (1, 2, 3))),
                (EIGHT + " ........" * 20, 7, ()), (EIGHT + " +++++++-", 7, ((0, 1, 2, 3, 4, 5, 6),)),
                (EIGHT + " -+++++++", 0, ((1, 2, 3, 4, 5, 6, 7),)),
                (EIGHT + " +-------", 7, ((0,),))):
            with self.subTest(text=text, rule=rule):
                self.assertEqual(reasons(Book(text), rule), told)

    def test_a_reason_can_come_of_several_rows(self):
        # Whichever of a and b is first, it is above c; and c is above d.
        self.assertEqual(reasons(Book("a b c d: ++-. ..+-"), 3), ((2,), (0, 1)))

    def test_no_ranking_comes_last(self):
        for text in QUARRELLING:
            book = Book(text)
            for rule in range(len(book.names)):
                self.assertEqual(error_of(reasons, book, rule), (NoRanking, {}))
            for rule in (len(book.names), -1, False, "a", None):
                self.assertEqual(error_of(reasons, book, rule), (InvalidRule, {"given": rule}))

    def test_arguments(self):
        right = {"book": Book("a b c: ++-"), "rule": 2}
        self.check_arguments(reasons, right, {"book": NO_BOOKS, "rule": WRONG_RULES})


def needless_by_words(book):
    """The rows that hold for all rankings that fit the book without them."""
    many = len(book.names)
    return tuple(
        index for index, row in enumerate(book.rows)
        if all(holds_for(row, one) for one in fitting_rows(many, book.rows[:index] + book.rows[index + 1:]))
    )


class NeedlessTest(ArgumentsCase):

    def test_all_rankings_gone_through(self):
        for book in BOOKS + all_books(2, 3) + told_books(25, 2, (7,)):
            with self.subTest(text=book.text):
                self.assertEqual(needless(book), needless_by_words(book))

    def test_edges(self):
        for text, told in {
                "a:": (), "a: +": (0,), "a: .": (0,), "a: -": (), "a: - -": (0, 1), "a: - + .": (1, 2),
                "a b: +-": (), "a b: +- +-": (0, 1), "a b: +- ..": (1,), "a b: +- -+": (), "a b: +- -+ +-": (0, 2),
                "a b: +- -+ --": (0, 1, 2), "a b: -- -.": (0, 1), "a b c: +-. .+- +.-": (2,),
                "a b:" + " +-" * 20: tuple(range(20)), EIGHT + " ........" * 20: tuple(range(20)),
                EIGHT: (), EIGHT + " --------" * 20: tuple(range(20)),
                "a b:" + " .." * 19 + " +-": tuple(range(19)),
        }.items():
            with self.subTest(text=text):
                self.assertEqual(needless(Book(text)), told)

    def test_without_a_needless_row_the_book_is_alike(self):
        for book in BOOKS:
            told = needless(book)
            for index in range(len(book.rows)):
                self.assertEqual(alike(book, book.without(index)), index in told, book.text)

    def test_arguments(self):
        for text in ("a b c: ++-", "a b c: +-. -+.", "a b c:"):
            self.check_arguments(needless, {"book": Book(text)}, {"book": NO_BOOKS})


class AlikeTest(ArgumentsCase):

    def test_all_pairs_of_small_books(self):
        books = small_books()
        for book in books:
            for other in books[::3]:
                same = book.names == other.names and fitting(book) == fitting(other)
                self.assertIs(alike(book, other), same, (book.text, other.text))

    def test_wider_books(self):
        books = drawn_books(26, 30, (3,)) + told_books(27, 30, (3,)) + drawn_books(28, 15, (4,))
        for book in books:
            for other in books:
                same = book.names == other.names and fitting(book) == fitting(other)
                self.assertIs(alike(book, other), same, (book.text, other.text))

    def test_books_with_the_same_reasons_and_only_these_are_alike(self):
        books = [book for book in all_books(3, 1) + drawn_books(29, 40, (3,)) + told_books(30, 20, (3,))
                 if how_many(book) > 0]
        why = {book.text: [reasons(book, rule) for rule in range(3)] for book in books}
        for book in books:
            for other in books:
                self.assertIs(alike(book, other), why[book.text] == why[other.text], (book.text, other.text))

    def test_names_count(self):
        self.assertIs(alike(Book("a b:"), Book("a c:")), False)
        self.assertIs(alike(Book("a b:"), Book("a b c:")), False)
        self.assertIs(alike(Book("a:"), Book("a b:")), False)
        self.assertIs(alike(Book("a b: --"), Book("a c: --")), False)
        self.assertIs(alike(Book("a: -"), Book("a b: --")), False)

    def test_edges(self):
        for one, other, told in (
                ("a:", "a:", True), ("a:", "a: +", True), ("a:", "a: -", False), ("a: -", "a: - - .", True),
                ("a b: +-", "a b: +- +- ..", True), ("a b: +-", "a b: -+", False), ("a b: +- -+", "a b: --", True),
                ("a b c: +-. .+-", "a b c: +-- .+-", True), ("a b c: +-. .+-", "a b c: .+- +-.", True),
                (EIGHT, EIGHT + " ++++++++" * 20, True), (EIGHT + " ++++++++" * 20, EIGHT + " ++++++++" * 20, True),
                (EIGHT + " +++++++-" * 20, EIGHT + " ++++++-." * 20, False),
                (EIGHT + " +-......" * 20, EIGHT + " ........" * 19 + " +-......", True)):
            with self.subTest(one=one, other=other):
                self.assertIs(alike(Book(one), Book(other)), told)
                self.assertIs(alike(Book(other), Book(one)), told)

    def test_arguments(self):
        for text in ("a b c: ++-", "a b c: +-. -+.", "a b c:"):
            right = {"book": Book(text), "other": Book("a b c: ++-")}
            self.check_arguments(alike, right, {"book": NO_BOOKS, "other": NO_BOOKS})

    def test_names_that_differ_do_not_hide_a_wrong_value(self):
        self.assertEqual(error_of(alike, Book("a:"), "b:"), (NotABook, {"given": "b:"}))


class RowsOfABookTest(unittest.TestCase):

    def test_each_row_of_a_book_is_sure_in_it(self):
        for book, _ in fitting_ones(BOOKS):
            self.assertEqual([judge(book, row) for row in book.rows], ["sure"] * len(book.rows), book.text)

    def test_the_pairs_above_are_the_reasons_of_one_rule(self):
        for book, _ in fitting_ones(BOOKS):
            pairs = [(lot[0], rule) for rule in range(len(book.names)) for lot in reasons(book, rule) if len(lot) == 1]
            self.assertEqual(above(book), tuple(sorted(pairs)), book.text)

    def test_a_reason_is_a_row_that_is_sure(self):
        for book, _ in fitting_ones(BOOKS[-40:]):
            many = len(book.names)
            for rule in range(many):
                for lot in reasons(book, rule):
                    row = "".join("-" if one == rule else "+" if one in lot else "." for one in range(many))
                    self.assertEqual(judge(book, row), "sure", (book.text, row))
                    self.assertIs(alike(book, book_of(many, (*book.rows[:19], row))), True)


if __name__ == "__main__":
    unittest.main()
