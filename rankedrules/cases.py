"""Cases: candidates with marks, who wins for a ranking, and who wins for none."""

from rankedrules.checks import check_known, check_ranking
from rankedrules.errors import InvalidText, NotACase, UnknownName
from rankedrules.layers import some_fits
from rankedrules.reading import read_case
from rankedrules.rows import all_hold, row_between


class Case:
    """A case, made of its text; it never changes."""

    def __init__(self, text):
        parts = read_case(text)
        if parts is None:
            raise InvalidText(text)
        self._text = text
        self._names, self._marks = parts

    @property
    def text(self):
        """The text of the case."""
        return self._text

    @property
    def names(self):
        """The names of the candidates."""
        return self._names

    @property
    def marks(self):
        """The marks of each candidate, in the order of the names."""
        return self._marks

    def __eq__(self, other):
        return isinstance(other, Case) and self._text == other._text

    def __str__(self):
        return str(self._text)

    def __repr__(self):
        return f"Case of {len(self._names)} candidates"


def check_case(case):
    """Raise NotACase if this is no case."""
    if not isinstance(case, Case):
        raise NotACase(case)


def case_fits(case, book):
    """Whether the value is a case with as many numbers of marks as the book has rules."""
    return isinstance(case, Case) and len(case.marks[0]) == len(book.names)


def check_case_beside(book, case):
    """Raise NotACase if this is no case that fits the book."""
    if not case_fits(case, book):
        raise NotACase(case)


def row_against(case, one, other):
    """The row of one candidate against another one, both being right."""
    return row_between(case.marks[case.names.index(one)], case.marks[case.names.index(other)])


def rows_of(case, one):
    """The rows of a candidate against all others, in the order of the names."""
    return tuple([row_against(case, one, other) for other in case.names if other != one])


def against(case, one, other):
    """The row of one candidate against another one."""
    check_case(case)
    check_known(one, case.names)
    check_known(other, case.names)
    if one == other:
        raise UnknownName(other)
    return row_against(case, one, other)


def winners(case, ranking):
    """The names of the candidates whose rows against all others hold for the ranking."""
    check_case(case)
    check_ranking(ranking, len(case.marks[0]))
    return tuple([name for name in case.names if all_hold(rows_of(case, name), ranking)])


def told_by(case, one):
    """The rows of a candidate against all others, in the order of the names."""
    check_case(case)
    check_known(one, case.names)
    return rows_of(case, one)


def barred(case):
    """The names of the candidates that are winners for no ranking."""
    check_case(case)
    many = len(case.marks[0])
    return tuple([name for name in case.names if not some_fits(rows_of(case, name), many)])
