"""What follows for all rankings that fit a book, and why."""

from rankedrules.books import check_book
from rankedrules.checks import check_row, check_rule
from rankedrules.heads import count_fitting, head_of, heads_above
from rankedrules.layers import check_some_fits
from rankedrules.lots import all_lots, has_part


def judge(book, row):
    """Whether the row holds for all rankings that fit, for none, or for some."""
    check_book(book)
    many = len(book.names)
    check_row(row, many)
    check_some_fits(book)
    kept = count_fitting((*book.rows, row), many)
    if kept == 0:
        return "never"
    return "sure" if kept == count_fitting(book.rows, many) else "open"


def above(book):
    """All pairs (a, b) such that the rule a is above b in all rankings that fit."""
    check_book(book)
    check_some_fits(book)
    many = len(book.names)
    heads = heads_above(book.rows, many)
    rules = range(many)
    return tuple([(one, two) for one in rules for two in rules if meets_all(1 << one, heads[two])])


def meets_all(lot, heads):
    """Whether some rule of the lot, itself written as a head, is in each of the heads."""
    return all([lot & head for head in heads])


def reasons(book, rule):
    """All least reasons for the rule, ordered by length, then as tuples."""
    check_book(book)
    many = len(book.names)
    check_rule(rule, many)
    check_some_fits(book)
    return tuple(least_lots(heads_above(book.rows, many)[rule], many))


def least_lots(heads, many):
    """All least lots with a rule in each head, ordered by length, then as tuples.

    What is above a rule never holds this rule itself, so no least lot has it.
    """
    least = []
    for lot in all_lots(many):
        if meets_all(head_of(lot), heads) and not has_part(lot, least):
            least.append(lot)
    return least


def needless(book):
    """The indexes of the rows that hold for all rankings that fit the other rows."""
    check_book(book)
    many = len(book.names)
    fitting = count_fitting(book.rows, many)
    return tuple([
        index for index in range(len(book.rows))
        if count_fitting(book.rows[:index] + book.rows[index + 1:], many) == fitting
    ])


def alike(book, other):
    """Whether both books have the same names and fit the same rankings."""
    check_book(book)
    check_book(other)
    many = len(book.names)
    if book.names != other.names:
        return False
    # The rows of both together fit the rankings that fit both books.
    both = count_fitting(book.rows + other.rows, many)
    return both == count_fitting(book.rows, many) and both == count_fitting(other.rows, many)
