"""What a value must be to be a name, a number, a row, a ranking, an index or a lot."""

from rankedrules.errors import (
    InvalidIndex, InvalidLot, InvalidName, InvalidRanking, InvalidRow, InvalidRule, UnknownName,
)
from rankedrules.limits import MOST_RULES

LETTERS = "abcdefghijklmnopqrstuvwxyz"
DIGITS = "0123456789"
MOST_LETTERS = 8
SIGNS = "+-."


def is_name(value):
    """Whether the value is a name, of a rule or of anything else."""
    if not isinstance(value, str) or not 1 <= len(value) <= MOST_LETTERS:
        return False
    return all([letter in LETTERS for letter in value])


def are_names(values):
    """Whether all values of a tuple are names, each greater than the one before it."""
    if not all([is_name(value) for value in values]):
        return False
    return all([one < other for one, other in zip(values, values[1:])])


def is_number(word):
    """Whether the word is a number in decimal digits without needless zeros."""
    if word == "" or not all([digit in DIGITS for digit in word]):
        return False
    return word == "0" or word[0] != "0"


def is_any_row(value):
    """Whether the value is a row for some number of rules."""
    if not isinstance(value, str) or not 1 <= len(value) <= MOST_RULES:
        return False
    return all([sign in SIGNS for sign in value])


def is_row(value, many):
    """Whether the value is a row with so many signs."""
    return is_any_row(value) and len(value) == many


def is_whole(value):
    """Whether the value is an integer, which True and False are not."""
    return isinstance(value, int) and not isinstance(value, bool)


def is_index(value, many):
    """Whether the value is an index of one of so many things."""
    return is_whole(value) and 0 <= value < many


def is_pair(one, other, many):
    """Whether the values are unlike indexes of so many things."""
    return is_index(one, many) and is_index(other, many) and one != other


def wrong_in_lot(lot, many):
    """The index of the first element that is no index or not greater than the one before it.

    None if there is none, so that the tuple is a lot of indexes of so many things.
    """
    least = 0
    for at, index in enumerate(lot):
        if not is_index(index, many) or index < least:
            return at
        least = index + 1
    return None


def is_lot(value, many):
    """Whether the value is a lot of indexes of so many things."""
    return isinstance(value, tuple) and wrong_in_lot(value, many) is None


def is_ranking(value, many):
    """Whether the value is a ranking of so many rules: each index once."""
    if not isinstance(value, tuple) or not all([is_whole(rule) for rule in value]):
        return False
    return sorted(value) == list(range(many))


def check_row(row, many):
    """Raise InvalidRow if this is no row with so many signs."""
    if not is_row(row, many):
        raise InvalidRow(row)


def check_ranking(ranking, many):
    """Raise InvalidRanking if this is no ranking of so many rules."""
    if not is_ranking(ranking, many):
        raise InvalidRanking(ranking)


def check_rule(rule, many):
    """Raise InvalidRule if this is no index of one of so many rules."""
    if not is_index(rule, many):
        raise InvalidRule(rule)


def check_name(name):
    """Raise InvalidName if this is no name."""
    if not is_name(name):
        raise InvalidName(name)


def check_known(name, names):
    """Raise UnknownName if this is none of the names."""
    if not isinstance(name, str) or name not in names:
        raise UnknownName(name)


def check_index(index, many):
    """Raise InvalidIndex if this is no index of one of so many things."""
    if not is_index(index, many):
        raise InvalidIndex(index)


def check_lot(lot, many):
    """Raise InvalidLot if this is no ascending tuple of indexes of so many things."""
    if not isinstance(lot, tuple):
        raise InvalidLot(None)
    wrong = wrong_in_lot(lot, many)
    if wrong is not None:
        raise InvalidLot(wrong)
