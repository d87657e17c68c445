"""Books: rules by name, and rows that tell who won against whom."""

from rankedrules.checks import check_index, check_lot, check_row, is_any_row
from rankedrules.errors import InvalidRow, InvalidText, NotABook, TooMany
from rankedrules.limits import MOST_ROWS
from rankedrules.reading import read_book, write_book
from rankedrules.rows import fused, turned


class Book:
    """A book, made of its text; it never changes."""

    def __init__(self, text):
        parts = read_book(text)
        if parts is None:
            raise InvalidText(text)
        self._text = text
        self._names, self._rows = parts

    @property
    def text(self):
        """The text of the book."""
        return self._text

    @property
    def names(self):
        """The names of the rules."""
        return self._names

    @property
    def rows(self):
        """The rows, in their order."""
        return self._rows

    def with_row(self, row):
        """The book with one more row, behind the others."""
        check_row(row, len(self._names))
        if len(self._rows) >= MOST_ROWS:
            raise TooMany(MOST_ROWS)
        return Book(write_book(self._names, (*self._rows, row)))

    def without(self, index):
        """The book without the row with this index."""
        check_index(index, len(self._rows))
        return Book(write_book(self._names, self._rows[:index] + self._rows[index + 1:]))

    def __eq__(self, other):
        return isinstance(other, Book) and self._text == other._text

    def __str__(self):
        return str(self._text)

    def __repr__(self):
        return f"Book with {len(self._names)} rules"


def check_book(book):
    """Raise NotABook if this is no book."""
    if not isinstance(book, Book):
        raise NotABook(book)


def opposite(row):
    """The row of the other candidate: better where this one is worse."""
    if not is_any_row(row):
        raise InvalidRow(row)
    return turned(row)


def fusion(book, lot):
    """The fusion of the rows of a lot."""
    check_book(book)
    check_lot(lot, len(book.rows))
    return fused([book.rows[index] for index in lot], len(book.names))
