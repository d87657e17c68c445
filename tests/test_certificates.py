"""Certificates: that the checker accepts them, and that they are of the right claims."""

import random
import unittest
from itertools import permutations, product

from rankedrules.books import Book, opposite
from rankedrules.cases import Case, barred
from rankedrules.certificates import (
    certify_above, certify_alike, certify_candidate, certify_count, certify_fits, certify_judged,
)
from rankedrules.checker import accepts
from rankedrules.errors import InvalidRow, InvalidRule, NotABook
from tests.arguments import (
    A_CASE, NO_BOOKS, NO_CASES, WRONG_ROWS, WRONG_RULES, ArgumentsCase, unknown_names,
)
from tests.brute import (
    all_rows, best, drawn_books, drawn_case, drawn_row, fitting, holds_for, rules_above, small_books, told_books,
)
from tests.test_checker import shows
from tests.values import error_of

EIGHT = "a b c d e f g h:"
EDGES = [Book(text) for text in (
    "a:", "a: +", "a: -", "a: .", EIGHT, EIGHT + " --------" * 20, EIGHT + " ........" * 20, EIGHT + " +-------" * 20,
    "a b:" + " +-" * 19 + " -+", "a b c: +-. .+- -.+", "a b c: .+- +-. ... -.+ ---",
    EIGHT + " +-...... .+-..... ..+-.... ...+-... ....+-.. .....+-. ......+- -......+" + " ++++++++" * 12,
)]
BOOKS = small_books() + drawn_books(111, 25, (3, 4, 5)) + told_books(112, 8, (3, 4, 5, 6)) + EDGES
QUARRELLING = ("a b c: +-. -+.", "a b c: ---", "a b c: +-. .+- -.+")


class CertificateCase(ArgumentsCase):

    def check_shown(self, told, claim):
        """What is told is this claim, with a certificate that the checker accepts, and rightly."""
        self.assertEqual((told.__class__, len(told)), (tuple, 2))
        self.assertEqual((told[0], told[0].__class__), (claim, tuple))
        self.assertIs(accepts(*told), True, told)
        self.assertTrue(shows(*told), told)


class FitsTest(CertificateCase):

    def test_all_rankings_gone_through(self):
        for book in BOOKS:
            word = "fits" if fitting(book) else "quarrels"
            with self.subTest(text=book.text):
                self.check_shown(certify_fits(book), (word, book.text))

    def test_equal_calls_give_equal_results(self):
        for book in BOOKS[::7]:
            self.assertEqual(certify_fits(book), certify_fits(Book(book.text)))

    def test_arguments(self):
        for text in ("a b c: ++-", *QUARRELLING):
            for function in (certify_fits, certify_count):
                self.check_arguments(function, {"book": Book(text)}, {"book": NO_BOOKS})


def claim_of(book, row):
    """The claim that is right for a row, by going through all rankings."""
    told = {holds_for(row, ranking) for ranking in fitting(book)}
    if told <= {True}:
        return ("follows", book.text, row)
    return ("open", book.text, row) if True in told else ("follows", book.text, opposite(row))


class JudgedTest(CertificateCase):

    def test_all_rows_of_small_books(self):
        for book in BOOKS:
            many = len(book.names)
            for row in all_rows(many)[::1 if many < 3 else 5] if many < 6 else ():
                with self.subTest(text=book.text, row=row):
                    self.check_shown(certify_judged(book, row), claim_of(book, row))

    def test_rows_of_wider_books(self):
        draw = random.Random(113)
        for book in BOOKS + told_books(114, 2, (7, 8)):
            many = len(book.names)
            rows = [drawn_row(draw, many, signs) for signs in ("+-.", "+-.....", "+.", "-.", "++-")]
            for row in ("." * many, "+" * many, "-" * many, *rows, *book.rows[:3], *map(opposite, book.rows[:3])):
                with self.subTest(text=book.text, row=row):
                    self.check_shown(certify_judged(book, row), claim_of(book, row))

    def test_edges(self):
        for text, row, claim in (
                ("a:", "+", "follows"), ("a:", ".", "follows"), ("a: +", "-", "follows of the opposite"),
                ("a: -", "-", "follows"), ("a: -", "+", "follows"), ("a: -", ".", "follows"), ("a b:", "+-", "open"),
                ("a b: +-", "-+", "follows of the opposite"), ("a b: +-", "--", "follows of the opposite"),
                ("a b: +- -+", "-+", "follows"), ("a b: +- -+", "--", "follows")):
            told = certify_judged(Book(text), row)
            right = opposite(row) if claim.endswith("opposite") else row
            self.check_shown(told, (claim.split()[0], text, right))

    def test_twenty_rows(self):
        for rows in ("++++++++ " * 19 + "+-------", "+-...... -+...... " * 10, "+......- " * 20, "........ " * 20):
            book = Book(f"{EIGHT} {rows.strip()}")
            for row in ("+------.", "-+++++++", "--------", "........", "+......-", ".+-....."):
                self.check_shown(certify_judged(book, row), claim_of(book, row))

    def test_arguments(self):
        for text in ("a b c: ++-", "a b c:", *QUARRELLING):
            for row in ("+-.", "--+", "+++"):
                right = {"book": Book(text), "row": row}
                self.check_arguments(certify_judged, right, {"book": NO_BOOKS, "row": WRONG_ROWS})

    def test_a_row_with_a_sign_more_or_less(self):
        for row in ("", "+", "+-", "+-..", "........"):
            self.assertEqual(error_of(certify_judged, Book("a b c: ---"), row), (InvalidRow, {"given": row}))


class AboveTest(CertificateCase):

    def test_all_rankings_gone_through(self):
        for book in BOOKS:
            for one, two in permutations(range(len(book.names)), 2):
                told = certify_above(book, one, two)
                with self.subTest(text=book.text, one=one, two=two):
                    if all(one in rules_above(ranking, two) for ranking in fitting(book)):
                        self.check_shown(told, ("above", book.text, one, two))
                    else:
                        self.assertIsNone(told)

    def test_a_book_that_no_ranking_fits(self):
        for text in QUARRELLING:
            for one, two in permutations(range(3), 2):
                self.check_shown(certify_above(Book(text), one, two), ("above", text, one, two))

    def test_the_same_rule_twice(self):
        for rule in range(3):
            for text in ("a b c:", "a b c: ---"):
                self.assertEqual(error_of(certify_above, Book(text), rule, rule), (InvalidRule, {"given": rule}))
        self.assertEqual(error_of(certify_above, Book("a:"), 0, 0), (InvalidRule, {"given": 0}))
        self.assertEqual(error_of(certify_above, Book("a b:"), 2, 2), (InvalidRule, {"given": 2}))

    def test_arguments(self):
        for text in ("a b c: +--", "a b c: ++-", "a b c: ---"):
            right = {"book": Book(text), "one": 0, "two": 2}
            wrong = {"book": NO_BOOKS, "one": WRONG_RULES, "two": WRONG_RULES + [(0, InvalidRule, {"given": 0})]}
            self.check_arguments(certify_above, right, wrong)


class CountTest(CertificateCase):

    def test_all_rankings_gone_through(self):
        for book in BOOKS + told_books(115, 2, (7, 8)):
            with self.subTest(text=book.text):
                told = certify_count(book)
                self.check_shown(told, ("count", book.text, len(fitting(book))))
                self.assertIsNone(told[1])

    def test_eight_rules(self):
        self.assertEqual(certify_count(Book(EIGHT)), (("count", EIGHT, 40320), None))


class AlikeTest(CertificateCase):

    def test_all_pairs(self):
        books = small_books()[::3] + drawn_books(116, 15, (3,)) + told_books(117, 15, (3,)) + EDGES
        for book, other in product(books, repeat=2):
            told = certify_alike(book, other)
            if book.names == other.names and fitting(book) == fitting(other):
                self.check_shown(told, ("alike", book.text, other.text))
                self.assertIsNone(told[1])
            else:
                self.assertIsNone(told, (book.text, other.text))

    def test_twenty_rows(self):
        one, other = Book(EIGHT + " +-------" * 20), Book(EIGHT + " ........" * 19 + " +-------")
        self.check_shown(certify_alike(one, other), ("alike", one.text, other.text))
        self.assertIsNone(certify_alike(one, Book(EIGHT + " ........" * 20)))

    def test_arguments(self):
        for text in ("a b c: ++-", "a b c:", "a b c: ---", "x:"):
            right = {"book": Book(text), "other": Book("a b c: ++-")}
            self.check_arguments(certify_alike, right, {"book": NO_BOOKS, "other": NO_BOOKS})
        self.assertEqual(error_of(certify_alike, Book("a:"), "b:"), (NotABook, {"given": "b:"}))


class CandidateTest(CertificateCase):

    def test_all_rankings_gone_through(self):
        draw = random.Random(118)
        cases = [drawn_case(draw, candidates, rules, most) for candidates, rules, most in product(
            (2, 3, 5, 8), (1, 2, 3, 4, 5), (1, 2, 3, 99))]
        for case in cases:
            seen = {name for ranking in permutations(range(len(case.marks[0]))) for name in best(case, ranking)}
            for one in case.names:
                with self.subTest(case=case.text, one=one):
                    self.check_shown(certify_candidate(case, one), ("wins" if one in seen else "loses", case.text, one))

    def test_eight_rules_and_eight_candidates(self):
        for text in (
                "; ".join(f"{name} 5 5 5 5 5 5 5 5" for name in "abcdefgh"),
                "; ".join(f"{name} {at} {at} {at} {at} {at} {at} {at} 0" for at, name in enumerate("abcdefgh")),
                "; ".join(f"{name} {at} {9 - at} 7 7 7 7 7 {at * at}" for at, name in enumerate("abcdefgh"))):
            case = Case(text)
            for one in case.names:
                word = "loses" if one in barred(case) else "wins"
                self.check_shown(certify_candidate(case, one), (word, text, one))

    def test_arguments(self):
        for case in (A_CASE, Case("a 0 2; b 1 1; c 2 0")):
            right = {"case": case, "one": "b"}
            self.check_arguments(certify_candidate, right, {"case": NO_CASES, "one": unknown_names(case.names)})


class KindsTest(unittest.TestCase):

    def test_all_nine_words_are_shown(self):
        book, bad = Book("a b c: ++-"), Book("a b c: ---")
        case = Case("a 0 2; b 1 1; c 2 0")
        told = [
            certify_fits(book), certify_fits(bad), certify_judged(book, "+.-"), certify_judged(book, "+++"),
            certify_above(bad, 0, 1), certify_count(book), certify_alike(book, book), certify_candidate(case, "a"),
            certify_candidate(case, "b"),
        ]
        self.assertEqual({claim[0] for claim, _ in told}, {
            "fits", "quarrels", "open", "follows", "above", "count", "alike", "wins", "loses"})
        for claim, certificate in told:
            self.assertIs(accepts(claim, certificate), True)


if __name__ == "__main__":
    unittest.main()
