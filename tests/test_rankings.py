"""Counts of the rankings that fit, their numbers, places and beginnings."""

import unittest

from rankedrules.books import Book
from rankedrules.errors import InvalidLot, InvalidNumber, InvalidRule, NoRanking
from rankedrules.rankings import beginnings, how_many, number_of, places, ranking_at
from tests.arguments import (
    NO_BOOKS, WRONG_LOTS, WRONG_RANKINGS, WRONG_RULES, ArgumentsCase, wrong_numbers,
)
from tests.brute import drawn_books, fitting, parts, rules_above, small_books, told_books
from tests.values import error_of

EIGHT = "a b c d e f g h:"
BOOKS = small_books() + drawn_books(11, 50, (3, 4, 5)) + told_books(12, 8, (3, 4, 5, 6))
# Books of all 40320 rankings and of fewer, each gone through once.
WIDE_BOOKS = drawn_books(13, 3, (7,)) + told_books(14, 2, (7, 8))


def fitting_ones(books):
    """The books that some ranking fits, each with the rankings."""
    return [(book, fitting(book)) for book in books if fitting(book)]


class HowManyTest(ArgumentsCase):

    def test_all_rankings_gone_through(self):
        for book in BOOKS + WIDE_BOOKS:
            with self.subTest(text=book.text):
                self.assertEqual(how_many(book), len(fitting(book)))

    def test_edges(self):
        for text, number in {
                "a:": 1, "a: +": 1, "a: .": 1, "a: -": 0, "a b:": 2, "a b: +-": 1, "a b: ++": 2, "a b: +- -+": 0,
                EIGHT: 40320, EIGHT + " ........" * 20: 40320, EIGHT + " ++++++++" * 20: 40320,
                EIGHT + " -+......": 20160, EIGHT + " +-------": 5040, EIGHT + " -------+": 5040,
                EIGHT + " --------": 0, EIGHT + " ........" * 19 + " .......-": 0,
                EIGHT + " +-......" * 10 + " .+-....." * 10: 6720,
                EIGHT + " +-...... .+-..... ..+-.... ...+-... ....+-.. .....+-. ......+-": 1,
        }.items():
            with self.subTest(text=text):
                self.assertEqual(how_many(Book(text)), number)
                self.assertIs(how_many(Book(text)).__class__, int)

    def test_arguments(self):
        for text in ("a b c: ++-", "a b c: +-. -+.", "a b c:"):
            self.check_arguments(how_many, {"book": Book(text)}, {"book": NO_BOOKS})


class NumbersTest(ArgumentsCase):

    def test_rankings_that_fit_are_told_in_ascending_order(self):
        for book, fit in fitting_ones(BOOKS):
            with self.subTest(text=book.text):
                self.assertEqual([ranking_at(book, number) for number in range(len(fit))], fit)
                self.assertEqual([number_of(book, ranking) for ranking in fit], list(range(len(fit))))

    def test_rankings_that_do_not_fit_have_no_number(self):
        for book in BOOKS:
            fit = fitting(book)
            for ranking in fitting(Book(" ".join(book.names) + ":")):
                told = fit.index(ranking) if ranking in fit else None
                self.assertEqual(number_of(book, ranking), told, book.text)

    def test_wide_books(self):
        for book, fit in fitting_ones(WIDE_BOOKS):
            for number in sorted({0, 1, len(fit) // 3, len(fit) // 2, len(fit) - 2, len(fit) - 1}):
                if 0 <= number < len(fit):
                    with self.subTest(text=book.text, number=number):
                        self.assertEqual(ranking_at(book, number), fit[number])
                        self.assertEqual(number_of(book, fit[number]), number)

    def test_edges(self):
        self.assertEqual(ranking_at(Book("a: +"), 0), (0,))
        self.assertEqual(number_of(Book("a: +"), (0,)), 0)
        self.assertIsNone(number_of(Book("a: -"), (0,)))
        self.assertEqual(ranking_at(Book(EIGHT), 0), (0, 1, 2, 3, 4, 5, 6, 7))
        self.assertEqual(ranking_at(Book(EIGHT), 40319), (7, 6, 5, 4, 3, 2, 1, 0))
        self.assertEqual(ranking_at(Book(EIGHT), 5040), (1, 0, 2, 3, 4, 5, 6, 7))
        self.assertEqual(number_of(Book(EIGHT + " ........" * 20), (7, 6, 5, 4, 3, 2, 1, 0)), 40319)
        self.assertEqual(number_of(Book(EIGHT + " -+......"), (1, 0, 2, 3, 4, 5, 6, 7)), 0)

    def test_the_first_number_beyond(self):
        for text, many in (("a:", 1), ("a b:", 2), ("a b c: ++-", 4), (EIGHT, 40320), ("a: -", 0), ("a b: +- -+", 0)):
            for number in (many, many + 1, -1):
                with self.subTest(text=text, number=number):
                    self.assertEqual(error_of(ranking_at, Book(text), number), (InvalidNumber, {"given": number}))

    def test_arguments(self):
        right = {"book": Book("a b c: ++-"), "number": 3}
        self.check_arguments(ranking_at, right, {"book": NO_BOOKS, "number": wrong_numbers(4)})
        for text in ("a b c: ++-", "a b c: +-. -+.", "a b c:"):
            right = {"book": Book(text), "ranking": (1, 0, 2)}
            self.check_arguments(number_of, right, {"book": NO_BOOKS, "ranking": WRONG_RANKINGS})


class PlacesTest(ArgumentsCase):

    def test_all_rankings_gone_through(self):
        for book, fit in fitting_ones(BOOKS + WIDE_BOOKS):
            for rule in range(len(book.names)):
                with self.subTest(text=book.text, rule=rule):
                    numbers = [ranking.index(rule) for ranking in fit]
                    self.assertEqual(places(book, rule), (min(numbers), max(numbers)))

    def test_edges(self):
        self.assertEqual(places(Book("a: +"), 0), (0, 0))
        self.assertEqual(places(Book(EIGHT), 7), (0, 7))
        self.assertEqual(places(Book(EIGHT + " ........" * 20), 0), (0, 7))
        self.assertEqual(places(Book(EIGHT + " -------+"), 7), (0, 0))
        self.assertEqual(places(Book(EIGHT + " -------+"), 0), (1, 7))

    def test_no_ranking_comes_last(self):
        for text, rules in (("a: -", 1), ("a b: +- -+", 2), (EIGHT + " --------", 8)):
            for rule in range(rules):
                self.assertEqual(error_of(places, Book(text), rule), (NoRanking, {}))
            for rule in (rules, -1, True, "0", None):
                self.assertEqual(error_of(places, Book(text), rule), (InvalidRule, {"given": rule}))

    def test_arguments(self):
        right = {"book": Book("a b c: ++-"), "rule": 2}
        self.check_arguments(places, right, {"book": NO_BOOKS, "rule": WRONG_RULES})


class BeginningsTest(ArgumentsCase):

    def test_all_rankings_gone_through(self):
        for book in BOOKS + WIDE_BOOKS[:1]:
            fit = fitting(book)
            for lot in parts(range(len(book.names))):
                with self.subTest(text=book.text, lot=lot):
                    number = sum(1 for ranking in fit if set(ranking[:len(lot)]) == set(lot))
                    self.assertEqual(beginnings(book, lot), number)

    def test_of_no_rule_and_of_all_rules_all_rankings_begin_so(self):
        for book in BOOKS + WIDE_BOOKS:
            with self.subTest(text=book.text):
                self.assertEqual(beginnings(book, ()), how_many(book))
                self.assertEqual(beginnings(book, tuple(range(len(book.names)))), how_many(book))

    def test_what_begins_with_a_rule_is_all_that_has_it_first(self):
        for book, fit in fitting_ones(BOOKS):
            firsts = [beginnings(book, (rule,)) for rule in range(len(book.names))]
            self.assertEqual(sum(firsts), len(fit))
            self.assertEqual([number > 0 for number in firsts],
                             [any(rules_above(ranking, rule) == () for ranking in fit)
                              for rule in range(len(book.names))])

    def test_edges(self):
        self.assertEqual([beginnings(Book("a:"), lot) for lot in ((), (0,))], [1, 1])
        self.assertEqual([beginnings(Book("a: -"), lot) for lot in ((), (0,))], [0, 0])
        self.assertEqual(beginnings(Book(EIGHT), (0, 7)), 2 * 720)
        self.assertEqual(beginnings(Book(EIGHT + " ++++++++" * 20), (1, 2, 3, 4)), 576)
        self.assertEqual(error_of(beginnings, Book("a: -"), (1,)), (InvalidLot, {"index": 0}))
        self.assertEqual(error_of(beginnings, Book(EIGHT), (0, 8)), (InvalidLot, {"index": 1}))

    def test_arguments(self):
        for text in ("a b c: ++- .+- ... +++", "a b c: +-. -+.", "a b c:"):
            right = {"book": Book(text), "lot": (0, 2)}
            self.check_arguments(beginnings, right, {"book": NO_BOOKS, "lot": WRONG_LOTS})


if __name__ == "__main__":
    unittest.main()
