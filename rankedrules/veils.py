"""Veils: cases in which some marks are hidden, and who can win them, or must."""

from rankedrules.books import check_book
from rankedrules.cases import Case
from rankedrules.checks import check_known
from rankedrules.errors import InvalidText, NotACase, TooMany
from rankedrules.heads import count_fitting
from rankedrules.judging import possible, wins
from rankedrules.layers import check_some_fits
from rankedrules.reading import read_veil, write_case

MOST_WAYS = 500

# Where the two ends of a stretch stand in its pair.
LEAST = 0
GREATEST = 1


class Veil:
    """A veil, made of its text; it never changes."""

    def __init__(self, text):
        parts = read_veil(text)
        if parts is None:
            raise InvalidText(text)
        self._text = text
        self._names, self._marks = parts

    @property
    def text(self):
        """The text of the veil."""
        return self._text

    @property
    def names(self):
        """The names of the candidates."""
        return self._names

    @property
    def marks(self):
        """The pairs of the least and the greatest number of marks, for each candidate."""
        return self._marks

    def __eq__(self, other):
        return isinstance(other, Veil) and self._text == other._text

    def __str__(self):
        return str(self._text)

    def __repr__(self):
        return f"Veil of {len(self._names)} candidates"


def check_veil(veil):
    """Raise NotACase if this is no veil."""
    if not isinstance(veil, Veil):
        raise NotACase(veil)


def check_veil_beside(book, veil):
    """Raise NotACase if this is no veil that fits the book."""
    check_veil(veil)
    if len(veil.marks[0]) != len(book.names):
        raise NotACase(veil)


def case_with(veil, one, own, others):
    """The case with this end of the stretches of a candidate, and that end of those of all others."""
    rows = [
        [stretch[own if name == one else others] for stretch in row]
        for name, row in zip(veil.names, veil.marks)
    ]
    return Case(write_case(veil.names, rows))


def brightest(veil, one):
    """The case with the least numbers of this candidate and the greatest ones of all others."""
    check_veil(veil)
    check_known(one, veil.names)
    return case_with(veil, one, LEAST, GREATEST)


def darkest(veil, one):
    """The case with the greatest numbers of this candidate and the least ones of all others."""
    check_veil(veil)
    check_known(one, veil.names)
    return case_with(veil, one, GREATEST, LEAST)


def can_win(book, veil):
    """The names of the candidates that win for some numbers and some ranking that fits."""
    check_book(book)
    check_veil_beside(book, veil)
    check_some_fits(book)
    # Fewer marks of its own and more marks of others never make a winner lose.
    cases = {name: case_with(veil, name, LEAST, GREATEST) for name in veil.names}
    return tuple([name for name in cases if wins(book, cases[name], name)])


def must_win(book, veil):
    """The names of the candidates that win for all numbers and all rankings that fit."""
    check_book(book)
    check_veil_beside(book, veil)
    check_some_fits(book)
    fitting = count_fitting(book.rows, len(book.names))
    cases = {name: case_with(veil, name, GREATEST, LEAST) for name in veil.names}
    return tuple([name for name in cases if wins(book, cases[name], name) == fitting])


def count_ways(stretches):
    """In how many ways numbers can be put in the place of the stretches."""
    ways = 1
    for least, greatest in stretches:
        ways = ways * (greatest - least + 1)
    return ways


def all_ways(stretches):
    """All ways to put numbers in the place of the stretches, each a tuple."""
    ways = [()]
    for least, greatest in stretches:
        ways = [(*way, number) for way in ways for number in range(least, greatest + 1)]
    return ways


def case_of_way(veil, way):
    """The case with these numbers, those of one candidate behind those of the one before it."""
    many = len(veil.marks[0])
    rows = [way[many * at:many * (at + 1)] for at in range(len(veil.names))]
    return Case(write_case(veil.names, rows))


def tells(answers, at):
    """Whether two ways that differ at one place alone, this one, have unlike answers."""
    seen = {}
    for way in answers:
        others = (way[:at], way[at + 1:])
        if seen.setdefault(others, answers[way]) != answers[way]:
            return True
    return False


def telling(book, veil):
    """The stretches whose number alone can change who is possible, as pairs (name, rule)."""
    check_book(book)
    check_veil_beside(book, veil)
    check_some_fits(book)
    stretches = [stretch for row in veil.marks for stretch in row]
    number = count_ways(stretches)
    if number > MOST_WAYS:
        raise TooMany(number)
    answers = {way: possible(book, case_of_way(veil, way)) for way in all_ways(stretches)}
    places = [(name, rule) for name in veil.names for rule in range(len(book.names))]
    return tuple([place for at, place in enumerate(places) if tells(answers, at)])
