"""Cases: candidates with marks, who wins for a ranking, and who wins for none."""

from rankedrules.checks import are_names, check_known, check_ranking, is_number
from rankedrules.errors import InvalidText, NotACase, UnknownName
from rankedrules.layers import all_hold, some_fits
from rankedrules.limits import MOST_CANDIDATES, MOST_MARKS, MOST_RULES

LEAST_CANDIDATES = 2


def is_mark(word):
    """Whether the word is a number of marks."""
    return is_number(word) and len(word) <= len(str(MOST_MARKS)) and int(word) <= MOST_MARKS


def read_case(text):
    """The names and the marks in a text of a case, two tuples; None if it is none."""
    if not isinstance(text, str):
        return None
    parts = [part.split(" ") for part in text.split("; ")]
    names = tuple([words[0] for words in parts])
    marks = [words[1:] for words in parts]
    if not LEAST_CANDIDATES <= len(names) <= MOST_CANDIDATES or not are_names(names):
        return None
    if not all([are_marks(words, len(marks[0])) for words in marks]):
        return None
    return names, tuple([tuple([int(word) for word in words]) for words in marks])


def are_marks(words, many):
    """Whether the words are marks for so many rules, and a case may have so many."""
    if len(words) != many or not 1 <= many <= MOST_RULES:
        return False
    return all([is_mark(word) for word in words])


class Case:
    """A case, made of its text; it never changes."""

    def __init__(self, text):
        parts = read_case(text)
        if parts is None:
            raise InvalidText(text)
        self._text = text
        self._names, self._marks = parts

    @property
    def text(self):
        """The text of the case."""
        return self._text

    @property
    def names(self):
        """The names of the candidates."""
        return self._names

    @property
    def marks(self):
        """The marks of each candidate, in the order of the names."""
        return self._marks

    def __eq__(self, other):
        return isinstance(other, Case) and self._text == other._text

    def __str__(self):
        return str(self._text)

    def __repr__(self):
        return f"Case of {len(self._names)} candidates"


def check_case(case):
    """Raise NotACase if this is no case."""
    if not isinstance(case, Case):
        raise NotACase(case)


def sign_of(mark, rival):
    """The sign of a rule by which one has so many marks, and its rival so many."""
    if mark < rival:
        return "+"
    return "-" if mark > rival else "."


def row_against(case, one, other):
    """The row of one candidate against another one, both being right."""
    mine = case.marks[case.names.index(one)]
    theirs = case.marks[case.names.index(other)]
    return "".join([sign_of(mark, rival) for mark, rival in zip(mine, theirs)])


def rows_of(case, one):
    """The rows of a candidate against all others, in the order of the names."""
    return tuple([row_against(case, one, other) for other in case.names if other != one])


def against(case, one, other):
    """The row of one candidate against another one."""
    check_case(case)
    check_known(one, case.names)
    check_known(other, case.names)
    if one == other:
        raise UnknownName(other)
    return row_against(case, one, other)


def winners(case, ranking):
    """The names of the candidates whose rows against all others hold for the ranking."""
    check_case(case)
    check_ranking(ranking, len(case.marks[0]))
    return tuple([name for name in case.names if all_hold(rows_of(case, name), ranking)])


def told_by(case, one):
    """The rows of a candidate against all others, in the order of the names."""
    check_case(case)
    check_known(one, case.names)
    return rows_of(case, one)


def barred(case):
    """The names of the candidates that are winners for no ranking."""
    check_case(case)
    many = len(case.marks[0])
    return tuple([name for name in case.names if not some_fits(rows_of(case, name), many)])
