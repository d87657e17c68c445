"""Courts: they are told of rows one by one, and each change can be taken back."""

from rankedrules.attempts import Attempt
from rankedrules.books import Book
from rankedrules.cases import check_case_beside, rows_of
from rankedrules.checks import are_names, check_known
from rankedrules.errors import InvalidName, NothingToUndo, TooMany
from rankedrules.layers import check_some_fits
from rankedrules.limits import MOST_ROWS, MOST_RULES
from rankedrules.reading import write_book


def are_rule_names(value):
    """Whether the value is a tuple of one to eight ascending names of rules."""
    return isinstance(value, tuple) and 1 <= len(value) <= MOST_RULES and are_names(value)


class Court:
    """A court; its states are the books that it had, the present one last."""

    def __init__(self, names):
        if not are_rule_names(names):
            raise InvalidName(names)
        self._names = names
        self._states = (Book(write_book(names, ())),)

    @property
    def names(self):
        """The names of the rules."""
        return self._names

    @property
    def book(self):
        """The book of the rows that were told."""
        return self._states[-1]

    @property
    def changes(self):
        """The number of changes that can be taken back."""
        return len(self._states) - 1

    def tell(self, row):
        """The row comes, behind the others."""
        book = self.book.with_row(row)
        check_some_fits(book)
        self._states = (*self._states, book)

    def tell_case(self, case, one):
        """The rows of this candidate against all others come, as one change."""
        check_case_beside(self.book, case)
        check_known(one, case.names)
        rows = (*self.book.rows, *rows_of(case, one))
        if len(rows) > MOST_ROWS:
            raise TooMany(len(rows))
        book = Book(write_book(self._names, rows))
        check_some_fits(book)
        self._states = (*self._states, book)

    def forget(self, index):
        """The row with this index goes."""
        book = self.book.without(index)
        self._states = (*self._states, book)

    def undo(self):
        """Take back the last change that is not taken back yet."""
        if self.changes == 0:
            raise NothingToUndo()
        self._states = self._states[:-1]

    def attempt(self):
        """A new attempt with this court, for one `with` statement."""
        return Attempt(self)

    def tried(self, act):
        """What the function returns, called with the court in the rows of an attempt."""
        with self.attempt() as court:
            return act(court)

    def __eq__(self, other):
        return self is other
