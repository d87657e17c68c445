"""The texts of books, cases and veils: what stands in them, and how they are written."""

from rankedrules.checks import are_names, is_number, is_row
from rankedrules.limits import MOST_CANDIDATES, MOST_MARKS, MOST_ROWS, MOST_RULES

LEAST_CANDIDATES = 2


def read_book(text):
    """The names and the rows in a text of a book, two tuples; None if it is none."""
    if not isinstance(text, str) or ":" not in text:
        return None
    head, _, tail = text.partition(":")
    names = tuple(head.split(" "))
    first, *rows = tail.split(" ")
    if first != "" or len(names) > MOST_RULES or not are_names(names):
        return None
    if len(rows) > MOST_ROWS or not all([is_row(row, len(names)) for row in rows]):
        return None
    return names, tuple(rows)


def write_book(names, rows):
    """The text of the book with these names and rows."""
    return " ".join([" ".join(names) + ":", *rows])


def read_mark(word):
    """The number of marks that the word tells, None if it tells none."""
    if not is_number(word) or len(word) > len(str(MOST_MARKS)) or int(word) > MOST_MARKS:
        return None
    return int(word)


def read_stretch(word):
    """The least and the greatest number of marks that the word tells, None if it tells none."""
    first, dash, last = word.partition("-")
    least = read_mark(first)
    greatest = read_mark(last) if dash else least
    if least is None or greatest is None:
        return None
    if dash and least >= greatest:
        return None
    return least, greatest


def read_candidates(text, read_word):
    """The names of the candidates, and for each what its words are read as; None if it is no such text."""
    if not isinstance(text, str):
        return None
    parts = [part.split(" ") for part in text.split("; ")]
    names = tuple([words[0] for words in parts])
    if not LEAST_CANDIDATES <= len(names) <= MOST_CANDIDATES or not are_names(names):
        return None
    many = len(parts[0]) - 1
    if not 1 <= many <= MOST_RULES or not all([len(words) == many + 1 for words in parts]):
        return None
    marks = tuple([tuple([read_word(word) for word in words[1:]]) for words in parts])
    if not all([None not in row for row in marks]):
        return None
    return names, marks


def read_case(text):
    """The names and the marks in a text of a case, two tuples; None if it is none."""
    return read_candidates(text, read_mark)


def read_veil(text):
    """The names and the stretches in a text of a veil, two tuples; None if it is none."""
    return read_candidates(text, read_stretch)


def write_case(names, marks):
    """The text of the case with these candidates and marks."""
    parts = [" ".join([name, *[str(mark) for mark in row]]) for name, row in zip(names, marks)]
    return "; ".join(parts)
