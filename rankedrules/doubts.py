"""Rows that may be wrong: which ones to strike, how many are wrong, and what is sure all the same."""

from rankedrules.books import check_book
from rankedrules.checks import check_row, is_index
from rankedrules.errors import InvalidNumber, NoRanking, TooMany
from rankedrules.heads import sides, steps
from rankedrules.layers import some_fits
from rankedrules.limits import MOST_ROWS, MOST_STRUCK
from rankedrules.lots import all_lots, has_part
from rankedrules.rows import turned


def check_most(most):
    """Raise InvalidNumber if this is no integer from 0 to 20."""
    if not is_index(most, MOST_ROWS + 1):
        raise InvalidNumber(most)


def fits_without(book, lot):
    """Whether some ranking fits the book without the rows of a lot."""
    rows = [row for index, row in enumerate(book.rows) if index not in lot]
    return some_fits(rows, len(book.names))


def struck(book):
    """All least lots of rows without which some ranking fits, ordered by length, then as tuples."""
    check_book(book)
    many = len(book.rows)
    if many > MOST_STRUCK:
        raise TooMany(many)
    least = []
    for lot in all_lots(many):
        if not has_part(lot, least) and fits_without(book, lot):
            least.append(lot)
    return tuple(least)


def count_fallen(told, head, rule):
    """How many rows fail by this rule right behind a head, `told` being the sides of all rows."""
    bit = 1 << rule
    return len([worse for better, worse in told if worse & bit and not (better | worse) & head])


def least_wrong(rows, row):
    """The least number of these rows that do not hold, of all rankings for which this row holds.

    None if it holds for no ranking. How many more rows fail by the next rule depends
    on the head alone, so the best order of each head is enough to go on with.
    """
    told = [sides(one) for one in rows]
    behind = steps((row,), len(row))
    least = [None for _ in behind]
    least[0] = 0
    for head, rules in enumerate(behind):
        for rule in rules:
            after = head | (1 << rule)
            if least[head] is not None:
                wrong = least[head] + count_fallen(told, head, rule)
                if least[after] is None or wrong < least[after]:
                    least[after] = wrong
    return least[-1]


def fewest_wrong(book):
    """The least number of rows that do not hold, of all rankings."""
    check_book(book)
    return fewest_of_all(book)


def fewest_of_all(book):
    """The same, the book being one."""
    # This row holds for all rankings.
    return least_wrong(book.rows, "." * len(book.names))


def holds_for_some(book, row, most):
    """Whether the row holds for one of the rankings for which at most so many rows do not hold."""
    number = least_wrong(book.rows, row)
    return number is not None and number <= most


def surely_wrong(book, most):
    """The rows that hold for no ranking for which at most so many do not; None if there is no such ranking."""
    check_book(book)
    check_most(most)
    if fewest_of_all(book) > most:
        return None
    return tuple([index for index, row in enumerate(book.rows) if not holds_for_some(book, row, most)])


def follows_with(book, row, most):
    """Whether the row holds for all rankings for which at most so many rows of the book do not."""
    check_book(book)
    check_row(row, len(book.names))
    check_most(most)
    if fewest_of_all(book) > most:
        raise NoRanking()
    # A row without `-` holds always; any other one fails exactly where its opposite holds.
    return "-" not in row or not holds_for_some(book, turned(row), most)
