"""Desks: books under names, and claims about them that hold after each change."""

from rankedrules.attempts import Attempt
from rankedrules.books import check_book
from rankedrules.checks import check_index, check_name, is_name
from rankedrules.claims import is_claim, look_at
from rankedrules.errors import Broken, InUse, InvalidClaim, NothingToUndo, UnknownName


def check_claims(claims, name, book, first):
    """Raise Broken at the first of the claims with this name that does not hold for the book.

    `first` is the index of the first one of all these claims.
    """
    for at, claim in enumerate(claims):
        if claim[1] == name:
            holds, told = look_at(claim, book)
            if not holds:
                raise Broken(first + at, told)


class Desk:
    """A desk; its states are pairs of its books by name and its claims, the present one last."""

    def __init__(self):
        self._states = (({}, ()),)

    @property
    def names(self):
        """The names of the books, ascending."""
        return tuple(sorted(self._books()))

    @property
    def claims(self):
        """The claims, in the order in which they were made."""
        return self._states[-1][1]

    @property
    def changes(self):
        """The number of changes that can be taken back."""
        return len(self._states) - 1

    def _books(self):
        """The books by name; a state that stands is never changed."""
        return self._states[-1][0]

    def _change(self, books, claims):
        """Go on with these books and claims."""
        self._states = (*self._states, (books, claims))

    def put(self, name, book):
        """The book stands under the name, if all claims with this name hold for it."""
        check_name(name)
        check_book(book)
        check_claims(self.claims, name, book, 0)
        books = self._books()
        self._change({**books, name: book}, self.claims)

    def drop(self, name):
        """The book under the name goes."""
        check_name(name)
        if name not in self:
            raise UnknownName(name)
        for at, claim in enumerate(self.claims):
            if claim[1] == name:
                raise InUse(at)
        books = self._books()
        self._change({one: books[one] for one in books if one != name}, self.claims)

    def claim(self, claim):
        """The claim comes, behind the others, if it holds."""
        if not is_claim(claim):
            raise InvalidClaim(claim)
        if claim[1] not in self:
            raise UnknownName(claim[1])
        check_claims((claim,), claim[1], self[claim[1]], len(self.claims))
        self._change(self._books(), (*self.claims, claim))

    def lift(self, index):
        """The claim with this index goes."""
        check_index(index, len(self.claims))
        self._change(self._books(), self.claims[:index] + self.claims[index + 1:])

    def undo(self):
        """Take back the last change that is not taken back yet."""
        if self.changes == 0:
            raise NothingToUndo()
        self._states = self._states[:-1]

    def attempt(self):
        """A new attempt with this desk, for one `with` statement."""
        return Attempt(self)

    def tried(self, act):
        """What the function returns, called with the desk in the rows of an attempt."""
        with self.attempt() as desk:
            return act(desk)

    def __getitem__(self, at):
        check_name(at)
        if at not in self:
            raise UnknownName(at)
        return self._books()[at]

    def __contains__(self, x):
        return is_name(x) and x in self._books()

    # A class with an index is one that Python would else iterate over by numbers.
    def __iter__(self):
        raise TypeError("a desk is not iterated over")

    def __len__(self):
        return len(self.names)

    # A desk without books is true, too.
    def __bool__(self):
        return True

    def __eq__(self, other):
        return self is other
