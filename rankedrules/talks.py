"""Talks: what a court answers to lines of text."""

from rankedrules.checks import is_any_row, is_name, is_number
from rankedrules.courts import Court
from rankedrules.errors import (
    InvalidIndex, InvalidRow, InvalidText, NoRanking, NotACourt, NothingToUndo, TooMany,
)
from rankedrules.following import judge
from rankedrules.layers import layers
from rankedrules.limits import MOST_ROWS
from rankedrules.rankings import how_many
from rankedrules.rows import row_of_pair

# The words that stand alone, and those with a row behind them.
ALONE = ("undo", "rows", "count", "layers")
WITH_ROW = ("tell", "judge")


def is_line(line):
    """Whether the value is a line that a court answers."""
    if not isinstance(line, str):
        return False
    word, *parts = line.split(" ")
    if not parts:
        return word in ALONE
    if word == "above":
        return len(parts) == 2 and all([is_name(part) for part in parts])
    if len(parts) > 1:
        return False
    if word == "forget":
        return is_number(parts[0])
    return word in WITH_ROW and is_any_row(parts[0])


def index_of(word):
    """The index that a number tells, or the first one beyond all rows."""
    # Python does not read numbers of any length.
    return int(word) if len(word) <= len(str(MOST_ROWS)) else MOST_ROWS


def tell_row(court, row):
    """Tell the court of a row, and what is answered."""
    try:
        court.tell(row)
    except InvalidRow:
        return "no InvalidRow"
    except TooMany:
        return "no TooMany"
    except NoRanking:
        return "no NoRanking"
    return "done"


def forget_row(court, word):
    """Let the court forget the row with this index, and what is answered."""
    try:
        court.forget(index_of(word))
    except InvalidIndex:
        return "no InvalidIndex"
    return "done"


def undo_change(court):
    """Take back the last change, and what is answered."""
    try:
        court.undo()
    except NothingToUndo:
        return "no NothingToUndo"
    return "done"


def told_layers(book):
    """The names of the rules, layer by layer."""
    return " / ".join([" ".join([book.names[rule] for rule in layer]) for layer in layers(book)])


def told_row(book, row):
    """What is told of a row."""
    try:
        return judge(book, row)
    except InvalidRow:
        return "no InvalidRow"


def told_above(book, one, other):
    """What is told of one rule being above another one, both given by name."""
    if one not in book.names or other not in book.names or one == other:
        return "no UnknownName"
    row = row_of_pair(book.names.index(one), book.names.index(other), len(book.names))
    return judge(book, row)


def told(court, line):
    """What the court answers to a line, which is one that it answers."""
    word, *parts = line.split(" ")
    if word == "tell":
        return tell_row(court, parts[0])
    if word == "forget":
        return forget_row(court, parts[0])
    if word == "undo":
        return undo_change(court)
    if word == "rows":
        return " ".join(court.book.rows) if court.book.rows else "none"
    if word == "count":
        return str(how_many(court.book))
    if word == "layers":
        return told_layers(court.book)
    if word == "judge":
        return told_row(court.book, parts[0])
    return told_above(court.book, parts[0], parts[1])


def check_court(court):
    """Raise NotACourt if this is no court."""
    if not isinstance(court, Court):
        raise NotACourt(court)


def answer(court, line):
    """What the court answers to a line of text."""
    check_court(court)
    if not is_line(line):
        raise InvalidText(line)
    return told(court, line)


def talk(court, text):
    """The answers to the lines of a text, each in a line of its own."""
    check_court(court)
    if not isinstance(text, str):
        raise InvalidText(text)
    answers = []
    for line in text.split("\n"):
        answers.append(answer(court, line))
    return "\n".join(answers)
