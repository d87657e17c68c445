"""The claims of a desk: what is one, which one holds for a book, and what is so instead."""

from rankedrules.checks import is_any_row, is_pair, is_row, is_whole
from rankedrules.following import judge
from rankedrules.layers import some_fits
from rankedrules.rankings import how_many
from rankedrules.rows import row_of_pair

# How many elements a claim with this word has, the word and the name counted.
LENGTHS = {"fits": 2, "follows": 3, "above": 4, "count": 3, "rows": 3}


def is_claim(value):
    """Whether the value is a claim, whatever stands in the place of the name."""
    if not isinstance(value, tuple) or not value or not isinstance(value[0], str):
        return False
    word, parts = value[0], value[2:]
    if word not in LENGTHS or len(value) != LENGTHS[word]:
        return False
    if word == "follows":
        return is_any_row(parts[0])
    return all([is_whole(part) for part in parts])


def followed_row(claim, many):
    """The row that follows if the claim "follows" or "above" holds; None if the claim does not fit."""
    if claim[0] == "follows":
        return claim[2] if is_row(claim[2], many) else None
    return row_of_pair(claim[2], claim[3], many) if is_pair(claim[2], claim[3], many) else None


def look_at(claim, book):
    """Whether the claim holds for the book, and what is told if it does not."""
    if claim[0] == "fits":
        return some_fits(book.rows, len(book.names)), False
    if claim[0] == "count":
        return claim[2] == how_many(book), how_many(book)
    if claim[0] == "rows":
        return claim[2] == len(book.rows), len(book.rows)
    row = followed_row(claim, len(book.names))
    if row is None:
        return False, None
    if not some_fits(book.rows, len(book.names)):
        return True, "sure"
    told = judge(book, row)
    return told == "sure", told
