"""Who may win a case and who must, with which shares, and which question tells most."""

from math import gcd

from rankedrules.books import check_book
from rankedrules.cases import case_fits, check_case_beside, rows_of
from rankedrules.checks import is_row
from rankedrules.errors import InvalidCases, InvalidOffers
from rankedrules.heads import count_fitting, steps
from rankedrules.layers import check_some_fits, some_fits
from rankedrules.limits import MOST_CASES, MOST_OFFERS


def wins(book, case, name):
    """For how many rankings that fit the candidate is among the winners."""
    return count_fitting((*book.rows, *rows_of(case, name)), len(book.names))


def possible(book, case):
    """The names of the candidates that are among the winners for some ranking that fits."""
    check_book(book)
    check_case_beside(book, case)
    check_some_fits(book)
    many = len(book.names)
    # Asked so, and not by counting, since `telling` asks it hundreds of times.
    return tuple([name for name in case.names if some_fits((*book.rows, *rows_of(case, name)), many)])


def sure(book, case):
    """The names of the candidates that are among the winners for all rankings that fit."""
    check_book(book)
    check_case_beside(book, case)
    check_some_fits(book)
    fitting = count_fitting(book.rows, len(book.names))
    return tuple([name for name in case.names if wins(book, case, name) == fitting])


def reduced(top, bottom):
    """The fraction without a common divisor, the bottom being above 0."""
    common = gcd(top, bottom)
    return top // common, bottom // common


def shares(book, case):
    """For each candidate the share of the rankings that fit for which it is among the winners."""
    check_book(book)
    check_case_beside(book, case)
    check_some_fits(book)
    fitting = count_fitting(book.rows, len(book.names))
    return tuple([reduced(wins(book, case, name), fitting) for name in case.names])


def first_wrong(right, most):
    """The index of the first element that is not right or beyond so many, None if there is none.

    `right` tells for each element whether it is right by itself.
    """
    for index, told in enumerate(right):
        if not told or index >= most:
            return index
    return None


def check_cases(book, cases):
    """Raise InvalidCases if this is no tuple of one to four cases that fit the book."""
    if not isinstance(cases, tuple) or not cases:
        raise InvalidCases(None)
    wrong = first_wrong([case_fits(case, book) for case in cases], MOST_CASES)
    if wrong is not None:
        raise InvalidCases(wrong)


def check_offers(book, offers):
    """Raise InvalidOffers if this is no tuple of one to eight rows for the rules of the book."""
    if not isinstance(offers, tuple) or not offers:
        raise InvalidOffers(None)
    wrong = first_wrong([is_row(row, len(book.names)) for row in offers], MOST_OFFERS)
    if wrong is not None:
        raise InvalidOffers(wrong)


def narrowed(case, names, rule):
    """Those of some candidates that have the fewest marks by the rule."""
    marks = {name: row[rule] for name, row in zip(case.names, case.marks)}
    fewest = min([marks[name] for name in names])
    return tuple([name for name in names if marks[name] == fewest])


def outcomes(book, cases):
    """All tuples, with the winners of each case, that rankings that fit make."""
    check_book(book)
    check_cases(book, cases)
    check_some_fits(book)
    behind = steps(book.rows, len(book.names))
    # For each head the candidates of each case that may be left when its rules are
    # asked: where two orders of them leave the same ones, they are gone on with once.
    left = [{} for _ in behind]
    left[0][tuple([case.names for case in cases])] = True
    for head, rules in enumerate(behind):
        for standing in list(left[head]):
            for rule in rules:
                after = tuple([narrowed(case, names, rule) for case, names in zip(cases, standing)])
                left[head | (1 << rule)][after] = True
    return tuple(sorted(left[-1]))


def best_question(book, offers):
    """The index of the first row whose greater number of rankings, for it or against it, is least."""
    check_book(book)
    check_offers(book, offers)
    many = len(book.names)
    fitting = count_fitting(book.rows, many)
    holding = [count_fitting((*book.rows, row), many) for row in offers]
    greater = [max(number, fitting - number) for number in holding]
    return greater.index(min(greater))
