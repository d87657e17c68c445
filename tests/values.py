"""Values that tests pass where something else is asked for, and a way to see the error."""

from rankedrules.books import Book
from rankedrules.cases import Case
from rankedrules.courts import Court
from rankedrules.desks import Desk
from rankedrules.veils import Veil

HUGE = 10 ** 5000

OTHER_KINDS = (
    None, True, False, 0, 1, -1, 7, HUGE, -HUGE, "", "x", "+", ":", b"a:", (), (0,), ("+",), [], [0],
    ["+", "-"], {}, {0: "+"}, {0, 1}, ((0,), [1]), object(), int, len, Book("a:"), Book("a b: +- -+"),
    Case("c 0; d 1"), Veil("c 0-1; d 1"), Court(("a",)), Desk(),
)


class Alike:
    """A class whose objects say that they equal all."""

    def __eq__(self, other):
        return True


def raised(act, *given, **named):
    """The error that a call raises, None if it raises none."""
    try:
        act(*given, **named)
    except Exception as error:
        return error
    return None


def error_of(act, *given, **named):
    """The class of the error that a call raises, and its attributes."""
    error = raised(act, *given, **named)
    return error.__class__, error if error is None else vars(error)
