"""Certificates: claims with what shows them to the checker."""

from rankedrules.books import check_book, opposite
from rankedrules.cases import check_case, rows_of
from rankedrules.checks import check_known, check_row, check_rule
from rankedrules.errors import InvalidRule
from rankedrules.following import alike
from rankedrules.heads import count_fitting
from rankedrules.layers import least_quarrel, some_fits, some_ranking
from rankedrules.rows import row_of_pair, turned


def certify_fits(book):
    """That some ranking fits the book, or that none does."""
    check_book(book)
    many = len(book.names)
    if some_fits(book.rows, many):
        return ("fits", book.text), some_ranking(book.rows, many)
    return ("quarrels", book.text), least_quarrel(book.rows, many)


def holds_always(book, row):
    """Whether the row holds for all rankings that fit, also if none fits."""
    return "-" not in row or not some_fits((*book.rows, turned(row)), len(row))


def lot_for(book, row):
    """The rows that show that this one, which does so, holds for all rankings that fit."""
    if "-" not in row:
        return ()
    lot = least_quarrel((*book.rows, turned(row)), len(row))
    return tuple([index for index in lot if index < len(book.rows)])


def certify_judged(book, row):
    """That the row holds for all rankings that fit, for some, or its opposite for all."""
    check_book(book)
    check_row(row, len(book.names))
    if holds_always(book, row):
        return ("follows", book.text, row), lot_for(book, row)
    other = opposite(row)
    if holds_always(book, other):
        return ("follows", book.text, other), lot_for(book, other)
    one = some_ranking((*book.rows, row), len(row))
    two = some_ranking((*book.rows, other), len(row))
    return ("open", book.text, row), (one, two)


def certify_above(book, one, two):
    """That one rule is above another one in all rankings that fit; None if it is not."""
    check_book(book)
    many = len(book.names)
    check_rule(one, many)
    check_rule(two, many)
    if one == two:
        raise InvalidRule(two)
    row = row_of_pair(one, two, many)
    if not holds_always(book, row):
        return None
    return ("above", book.text, one, two), lot_for(book, row)


def certify_count(book):
    """How many rankings fit the book."""
    check_book(book)
    return ("count", book.text, count_fitting(book.rows, len(book.names))), None


def certify_alike(book, other):
    """That both books have the same names and fit the same rankings; None if it is not so."""
    if not alike(book, other):
        return None
    return ("alike", book.text, other.text), None


def certify_candidate(case, one):
    """That the candidate is among the winners for some ranking, or for none."""
    check_case(case)
    check_known(one, case.names)
    rows = rows_of(case, one)
    many = len(case.marks[0])
    if some_fits(rows, many):
        return ("wins", case.text, one), some_ranking(rows, many)
    others = [name for name in case.names if name != one]
    return ("loses", case.text, one), tuple([others[index] for index in least_quarrel(rows, many)])
