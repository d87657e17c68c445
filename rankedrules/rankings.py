"""How many rankings fit a book, and any one of them by its number."""

from rankedrules.books import check_book
from rankedrules.checks import check_lot, check_ranking, check_rule, is_index
from rankedrules.errors import InvalidNumber
from rankedrules.heads import count_fitting, endings, head_of, heads_above, openings, rules_of, steps
from rankedrules.layers import check_some_fits
from rankedrules.rows import all_hold


def how_many(book):
    """How many rankings fit the book."""
    check_book(book)
    return count_fitting(book.rows, len(book.names))


def ranking_at(book, number):
    """The ranking with this number among those that fit, in ascending order."""
    check_book(book)
    behind = steps(book.rows, len(book.names))
    ways = endings(behind)
    if not is_index(number, ways[0]):
        raise InvalidNumber(number)
    ranking, head, left = [], 0, number
    while behind[head]:
        at = 0
        while left >= ways[head | (1 << behind[head][at])]:
            left -= ways[head | (1 << behind[head][at])]
            at += 1
        ranking.append(behind[head][at])
        head |= 1 << ranking[-1]
    return tuple(ranking)


def number_of(book, ranking):
    """The number of the ranking among those that fit, None if it does not fit."""
    check_book(book)
    check_ranking(ranking, len(book.names))
    if not all_hold(book.rows, ranking):
        return None
    behind = steps(book.rows, len(book.names))
    ways = endings(behind)
    number = head = 0
    for rule in ranking:
        number += sum([ways[head | (1 << one)] for one in behind[head] if one < rule])
        head |= 1 << rule
    return number


def places(book, rule):
    """The least and the greatest number of rules above this one in rankings that fit."""
    check_book(book)
    many = len(book.names)
    check_rule(rule, many)
    check_some_fits(book)
    numbers = [len(rules_of(head, many)) for head in heads_above(book.rows, many)[rule]]
    return min(numbers), max(numbers)


def beginnings(book, lot):
    """How many rankings that fit begin with the rules of a lot, in any order."""
    check_book(book)
    check_lot(lot, len(book.names))
    behind = steps(book.rows, len(book.names))
    head = head_of(lot)
    return openings(behind)[head] * endings(behind)[head]
