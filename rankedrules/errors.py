"""The errors of the package, under their two base classes.

No class makes a message of its own: a value may be any value, also one that
cannot be shown as a string (an integer of very many digits).
"""


class WrongValue(ValueError):
    """An argument is not what the call asks for."""


class InvalidText(WrongValue):
    """The value is not such a text."""

    def __init__(self, given):
        self.given = given


class InvalidNumber(WrongValue):
    """The value is not such a number."""

    def __init__(self, given):
        self.given = given


class InvalidName(WrongValue):
    """The value is not such a name, or not such names."""

    def __init__(self, given):
        self.given = given


class InvalidIndex(WrongValue):
    """The value is not an index of such an element."""

    def __init__(self, given):
        self.given = given


class InvalidClaim(WrongValue):
    """The value is not a claim."""

    def __init__(self, given):
        self.given = given


class InvalidRow(WrongValue):
    """The value is not such a row."""

    def __init__(self, given):
        self.given = given


class InvalidRanking(WrongValue):
    """The value is not a ranking of these rules."""

    def __init__(self, given):
        self.given = given


class InvalidRule(WrongValue):
    """The value is not the index of such a rule."""

    def __init__(self, given):
        self.given = given


class UnknownName(WrongValue):
    """Nothing stands under the name."""

    def __init__(self, given):
        self.given = given


class NotABook(WrongValue):
    """The value is not a Book."""

    def __init__(self, given):
        self.given = given


class NotACase(WrongValue):
    """The value is not such a case."""

    def __init__(self, given):
        self.given = given


class NotACourt(WrongValue):
    """The value is not a Court."""

    def __init__(self, given):
        self.given = given


class InvalidLot(WrongValue):
    """The value is not a lot; `index` tells its first wrong element."""

    def __init__(self, index):
        self.index = index


class InvalidOffers(WrongValue):
    """The value is not a tuple of offers; `index` tells its first wrong element."""

    def __init__(self, index):
        self.index = index


class InvalidCases(WrongValue):
    """The value is not a tuple of cases; `index` tells its first wrong element."""

    def __init__(self, index):
        self.index = index


class NoAnswer(ArithmeticError):
    """The arguments are right, but there is no answer for them."""


class NoRanking(NoAnswer):
    """No ranking fits."""


class TooMany(NoAnswer):
    """There are, or would be, more than the limit."""

    def __init__(self, number):
        self.number = number


class Broken(NoAnswer):
    """A claim would not hold: its index, and what is so instead."""

    def __init__(self, index, told):
        self.index = index
        self.told = told


class InUse(NoAnswer):
    """A claim names what was to go: the index of the claim."""

    def __init__(self, index):
        self.index = index


class NothingToUndo(NoAnswer):
    """No change is left that could be taken back."""
