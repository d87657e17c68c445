"""Who is possible and who is sure, the shares, all outcomes, and the best question."""

import random
from fractions import Fraction
from itertools import product

from rankedrules.books import Book
from rankedrules.cases import Case
from rankedrules.errors import InvalidCases, InvalidOffers
from rankedrules.following import judge
from rankedrules.judging import best_question, outcomes, possible, shares, sure
from rankedrules.rankings import how_many
from tests.arguments import (
    A_CASE, NO_BOOKS, WRONG_CASE_TUPLES, WRONG_CASES, WRONG_OFFERS, ArgumentsCase,
)
from tests.brute import (
    all_rows, best, book_of, drawn_books, drawn_case, drawn_row, fitting, holds_for, small_books, told_books,
)
from tests.values import error_of

EIGHT = "a b c d e f g h:"
EQUAL = Case("; ".join(f"{name} 5 5 5 5 5 5 5 5" for name in "abcdefgh"))
ONE_EACH = Case("; ".join(
    " ".join([name, *["0" if at == rule else "1" for rule in range(8)]]) for at, name in enumerate("abcdefgh")))


def drawn_pairs():
    """Books that some ranking fits, each with a case that fits it, always the same ones."""
    draw = random.Random(41)
    books = [book for book in small_books() + drawn_books(42, 25, (3, 4)) if fitting(book)]
    books += told_books(43, 12, (3, 4, 5)) + told_books(44, 3, (6,)) + told_books(45, 1, (7, 8))
    return [
        (book, drawn_case(draw, draw.choice((2, 3, 4, 8)), len(book.names), draw.choice((1, 2, 3, 99))))
        for book in books
    ]


PAIRS = drawn_pairs()


def wins_of(book, case):
    """For each candidate the number of the rankings that fit for which it is among the winners."""
    told = [best(case, ranking) for ranking in fitting(book)]
    return [len([names for names in told if name in names]) for name in case.names]


class PossibleTest(ArgumentsCase):

    def test_all_rankings_gone_through(self):
        for book, case in PAIRS:
            numbers = wins_of(book, case)
            fit = len(fitting(book))
            with self.subTest(book=book.text, case=case.text):
                some = tuple(name for name, number in zip(case.names, numbers) if number > 0)
                each = tuple(name for name, number in zip(case.names, numbers) if number == fit)
                self.assertEqual(possible(book, case), some)
                self.assertEqual(sure(book, case), each)

    def test_edges(self):
        for text, told, some, each in (
                ("a:", "a 0; b 0", ("a", "b"), ("a", "b")), ("a:", "a 1; b 0", ("b",), ("b",)),
                ("a: +", "a 0; b 99", ("a",), ("a",)), ("a b:", "a 0 1; b 1 0", ("a", "b"), ()),
                ("a b: +-", "a 0 1; b 1 0", ("a",), ("a",)), ("a b: -+", "a 0 1; b 1 0", ("b",), ("b",)),
                ("a b: ++ ..", "a 0 1; b 1 0; c 0 1", ("a", "b", "c"), ()),
                ("a b:" + " +-" * 20, "a 0 1; b 1 0; c 0 1", ("a", "c"), ("a", "c")),
                ("a b c:", "a 0 2 1; b 1 1 1; c 2 0 1", ("a", "c"), ())):
            with self.subTest(text=text, case=told):
                self.assertEqual(possible(Book(text), Case(told)), some)
                self.assertEqual(sure(Book(text), Case(told)), each)

    def test_eight_rules_and_eight_candidates(self):
        everyone = tuple("abcdefgh")
        self.assertEqual((possible(Book(EIGHT), EQUAL), sure(Book(EIGHT), EQUAL)), (everyone, everyone))
        self.assertEqual((possible(Book(EIGHT), ONE_EACH), sure(Book(EIGHT), ONE_EACH)), (everyone, ()))
        book = Book(EIGHT + " ---++---" * 20)
        self.assertEqual((possible(book, ONE_EACH), sure(book, ONE_EACH)), (("d", "e"), ()))
        self.assertEqual(sure(Book(EIGHT + " -------+"), ONE_EACH), ("h",))

    def test_arguments(self):
        for case in (A_CASE, Case("ann 0 2 1; bob 1 0 1; cid 1 1 0; dan 1 2 1")):
            right = {"book": Book("a b c: ++-"), "case": case}
            wrong = {"book": NO_BOOKS, "case": WRONG_CASES}
            for function in (possible, sure, shares):
                self.check_arguments(function, right, wrong)
                self.check_no_ranking(function, right, wrong)


class SharesTest(ArgumentsCase):

    def test_all_rankings_gone_through(self):
        for book, case in PAIRS:
            fit = len(fitting(book))
            told = tuple(Fraction(number, fit).as_integer_ratio() for number in wins_of(book, case))
            with self.subTest(book=book.text, case=case.text):
                self.assertEqual(shares(book, case), told)

    def test_edges(self):
        for text, told, parts in (
                ("a:", "a 0; b 0", ((1, 1), (1, 1))), ("a:", "a 1; b 0", ((0, 1), (1, 1))),
                ("a b:", "a 0 1; b 1 0", ((1, 2), (1, 2))), ("a b: +-", "a 1 1; b 1 1; c 2 0", ((1, 1), (1, 1), (0, 1))),
                ("a b c:", "a 0 1 1; b 1 0 0", ((1, 3), (2, 3))), ("a b c: ++-", "a 0 1 1; b 1 0 0", ((1, 2), (1, 2)))):
            with self.subTest(text=text, case=told):
                self.assertEqual(shares(Book(text), Case(told)), parts)

    def test_eight_rules_and_eight_candidates(self):
        self.assertEqual(shares(Book(EIGHT), EQUAL), ((1, 1),) * 8)
        self.assertEqual(shares(Book(EIGHT), ONE_EACH), ((1, 8),) * 8)
        self.assertEqual(shares(Book(EIGHT + " ........" * 20), ONE_EACH), ((1, 8),) * 8)
        self.assertEqual(shares(Book(EIGHT + " +++-----"), ONE_EACH), ((1, 3),) * 3 + ((0, 1),) * 5)

    def test_tops_and_bottoms_are_plain_integers(self):
        for book, case in PAIRS[::9]:
            for top, bottom in shares(book, case):
                self.assertEqual((top.__class__, bottom.__class__), (int, int))


class OutcomesTest(ArgumentsCase):

    def test_all_rankings_gone_through(self):
        draw = random.Random(46)
        for book, case in PAIRS:
            many = len(book.names)
            more = [drawn_case(draw, draw.choice((2, 3, 8)), many, 2) for _ in range(draw.choice((0, 1, 2, 3)))]
            cases = (case, *more)
            told = {tuple(best(one, ranking) for one in cases) for ranking in fitting(book)}
            with self.subTest(book=book.text, cases=[one.text for one in cases]):
                self.assertEqual(outcomes(book, cases), tuple(sorted(told)))

    def test_each_case_alone_has_the_possible_winners(self):
        for book, case in PAIRS:
            names = {name for told in outcomes(book, (case,)) for name in told[0]}
            self.assertEqual(tuple(sorted(names)), possible(book, case))

    def test_edges(self):
        for text, cases, told in (
                ("a:", ("a 0; b 0",), ((("a", "b"),),)),
                ("a:", ("a 0; b 1",) * 4, ((("a",),) * 4,)),
                ("a b:", ("a 0 1; b 1 0",), ((("a",),), (("b",),))),
                ("a b:", ("a 0 1; b 1 0", "c 1 0; d 0 1"), ((("a",), ("d",)), (("b",), ("c",)))),
                ("a b: +-", ("a 0 1; b 1 0", "c 1 0; d 0 1"), ((("a",), ("d",)),)),
                ("a b:", ("a 0 1; b 0 1; c 1 0", "a 0 0; b 0 0"), ((("a", "b"), ("a", "b")), (("c",), ("a", "b"))))):
            with self.subTest(text=text, cases=cases):
                self.assertEqual(outcomes(Book(text), tuple(map(Case, cases))), told)

    def test_tuples_are_compared_as_in_python(self):
        # A winner alone comes ahead of the same one with another one.
        told = outcomes(Book("a b:"), (Case("a 0 0; b 0 1"), Case("a 0 0; b 0 0")))
        self.assertEqual(told, ((("a",), ("a", "b")),))
        told = outcomes(Book("a b c:"), (Case("a 1 1 0; b 1 0 1; c 0 2 2; d 1 0 1"),))
        self.assertEqual(told, ((("a",),), (("b", "d"),), (("c",),)))

    def test_eight_rules_and_four_cases_of_eight_candidates(self):
        told = outcomes(Book(EIGHT), (ONE_EACH, EQUAL, ONE_EACH, ONE_EACH))
        self.assertEqual(told, tuple(((name,), tuple("abcdefgh"), (name,), (name,)) for name in "abcdefgh"))
        self.assertEqual(len(outcomes(Book(EIGHT), (ONE_EACH,))), 8)

    def test_arguments(self):
        for cases in ((A_CASE,), (A_CASE, Case("c 1 1 1; d 0 2 1"), A_CASE), (A_CASE,) * 4):
            right = {"book": Book("a b c: ++-"), "cases": cases}
            wrong = {"book": NO_BOOKS, "cases": WRONG_CASE_TUPLES}
            self.check_arguments(outcomes, right, wrong)
            self.check_no_ranking(outcomes, right, wrong)

    def test_the_first_wrong_case(self):
        book = Book("a b c:")
        narrow, wide = Case("a 0 0; b 1 1"), Case("a 0 0 0 0; b 1 1 1 1")
        for cases, index in (
                ((), None), ([A_CASE], None), ((A_CASE, narrow), 1), ((wide, narrow), 0), ((A_CASE,) * 5, 4),
                ((A_CASE, A_CASE, None, A_CASE, A_CASE), 2), ((A_CASE,) * 4 + (narrow,), 4),
                ((A_CASE,) * 3 + (wide, A_CASE), 3), ((A_CASE,) * 5 + (narrow,), 4), ((A_CASE.text,), 0)):
            self.assertEqual(error_of(outcomes, book, cases), (InvalidCases, {"index": index}))


def asked(book, offers):
    """The index of the best question, by going through all rankings."""
    fit = fitting(book)
    greater = []
    for row in offers:
        holding = len([ranking for ranking in fit if holds_for(row, ranking)])
        greater.append(max(holding, len(fit) - holding))
    return [index for index, number in enumerate(greater) if number == min(greater)][0]


class BestQuestionTest(ArgumentsCase):

    def test_all_rankings_gone_through(self):
        draw = random.Random(47)
        for book in small_books() + drawn_books(48, 40, (3, 4, 5)) + told_books(49, 10, (4, 5, 6)):
            many = len(book.names)
            for number in (1, 2, 3, 8):
                offers = tuple(drawn_row(draw, many, "+-.") for _ in range(number))
                with self.subTest(book=book.text, offers=offers):
                    self.assertEqual(best_question(book, offers), asked(book, offers))

    def test_the_first_of_several_best_ones(self):
        book = Book("a b c:")
        self.assertEqual(best_question(book, ("+-.", "+-.")), 0)
        self.assertEqual(best_question(book, ("...", "+-.", "-+.", ".+-")), 1)
        self.assertEqual(best_question(book, ("+++", "---", "...")), 0)
        self.assertEqual(best_question(book, ("...", "++-", "+--", "-+.")), 3)

    def test_a_row_that_mostly_fails_is_as_good_as_one_that_mostly_holds(self):
        self.assertEqual(best_question(Book("a b c:"), ("++-", "+--")), 0)
        self.assertEqual(best_question(Book("a b c:"), ("+--", "++-")), 0)

    def test_a_book_that_no_ranking_fits(self):
        for text in ("a: -", "a b: +- -+", "a b:" + " .." * 19 + " --"):
            many = len(Book(text).names)
            for number in (1, 2, 8):
                offers = tuple(all_rows(many)[:3] * 3)[:number]
                self.assertEqual(best_question(Book(text), offers), 0)

    def test_one_and_eight_rules_and_offers(self):
        self.assertEqual(best_question(Book("a:"), ("+",)), 0)
        self.assertEqual(best_question(Book("a:"), ("+", "-", ".", "+", "-", ".", "+", "-")), 0)
        offers = ("........", "++++++++", "+-------", "++------", "+++-----", "++++----", "+++++---", "++++++--")
        self.assertEqual(best_question(Book(EIGHT), offers), 5)
        self.assertEqual(best_question(Book(EIGHT + " ........" * 20), offers[:5]), 4)

    def test_arguments(self):
        for text, offers in product(
                ("a b c: ++-", "a b c:", "a b c: --."), (("++-",), ("++-", "+-.", "..+"), ("+-.",) * 8)):
            right = {"book": Book(text), "offers": offers}
            self.check_arguments(best_question, right, {"book": NO_BOOKS, "offers": WRONG_OFFERS})

    def test_the_first_wrong_offer(self):
        book = Book("a b c:")
        for offers, index in (
                ((), None), (["+-."], None), ("+-.", None), (("+-.", "+-"), 1), (("+-..", None), 0), (("+-.",) * 9, 8),
                (("+-.",) * 8 + ("+",), 8), (("+-.",) * 7 + ("+", "+-."), 7), (("+-.",) * 10 + ("+",), 8)):
            self.assertEqual(error_of(best_question, book, offers), (InvalidOffers, {"index": index}))

    def test_an_answer_leaves_at_most_the_greater_number(self):
        for book in told_books(50, 10, (3, 4)):
            offers = tuple(all_rows(len(book.names))[5::11][:8])
            row = offers[best_question(book, offers)]
            if len(book.rows) < 20 and judge(book, row) == "open":
                self.assertLess(how_many(book.with_row(row)), how_many(book))


class BookOfTest(ArgumentsCase):

    def test_the_order_of_the_rows_does_not_count(self):
        for book, case in PAIRS[::4]:
            other = book_of(len(book.names), book.rows[::-1])
            for function in (possible, sure, shares):
                self.assertEqual(function(book, case), function(other, case))
