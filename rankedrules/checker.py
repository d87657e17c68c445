"""A small checker: whether a certificate shows a claim, whoever wrote either of them.

It shares with the other files only what a text, a row and a ranking are, and
works out all else by itself; it counts rankings in a way of its own.
"""

from rankedrules.checks import are_names, is_lot, is_pair, is_ranking, is_row, is_whole
from rankedrules.reading import read_book, read_case
from rankedrules.rows import all_hold, fused, row_between, row_holds, row_of_pair, turned

# How many elements a claim with this word has, the word counted.
LENGTHS = {
    "fits": 2, "quarrels": 2, "follows": 3, "above": 4, "open": 3, "count": 3, "alike": 3, "wins": 3, "loses": 3,
}


def is_fitting(value, rows, many):
    """Whether the value is a ranking of so many rules for which all rows hold."""
    return is_ranking(value, many) and all_hold(rows, value)


def do_quarrel(rows, many):
    """Whether the fusion of the rows has a `-`, and no `+`."""
    fusion = fused(rows, many)
    return "-" in fusion and "+" not in fusion


def shows_quarrel(certificate, rows, many):
    """Whether the certificate is a lot of rows that quarrel."""
    if not is_lot(certificate, len(rows)):
        return False
    return do_quarrel([rows[index] for index in certificate], many)


def shows_following(certificate, rows, row):
    """Whether the certificate shows that the row holds for all rankings that fit."""
    if not is_lot(certificate, len(rows)):
        return False
    if certificate == () and "-" not in row:
        return True
    lot = [rows[index] for index in certificate]
    return do_quarrel(lot, len(row)) or do_quarrel([*lot, turned(row)], len(row))


def shows_open(certificate, rows, row):
    """Whether the certificate is two rankings that fit, and the row holds for the first one alone."""
    if not isinstance(certificate, tuple) or len(certificate) != 2:
        return False
    one, other = certificate
    if not is_fitting(one, rows, len(row)) or not is_fitting(other, rows, len(row)):
        return False
    return row_holds(row, one) and not row_holds(row, other)


def may_follow(rule, lot, rows):
    """Whether no row fails by this rule right behind the rules of a lot."""
    return all(["+" in [row[one] for one in lot] for row in rows if row[rule] == "-"])


def count_rankings(rows, many):
    """For how many rankings of so many rules all rows hold."""
    ways = {(): 1}
    for _ in range(many):
        longer = {}
        for lot in ways:
            for rule in range(many):
                if rule not in lot and may_follow(rule, lot, rows):
                    more = tuple(sorted([*lot, rule]))
                    longer[more] = longer.get(more, 0) + ways[lot]
        ways = longer
    return ways.get(tuple(range(many)), 0)


def are_alike(names, rows, text):
    """Whether the text is that of a book with these names that fits the same rankings as these rows."""
    other = read_book(text)
    if other is None or other[0] != names:
        return False
    # The rows of both together fit the rankings that fit both.
    both = count_rankings(rows + other[1], len(names))
    return both == count_rankings(rows, len(names)) and both == count_rankings(other[1], len(names))


def shows_above(certificate, rows, many, pair):
    """Whether the certificate shows that the first rule of a pair is above the second one."""
    one, other = pair
    return is_pair(one, other, many) and shows_following(certificate, rows, row_of_pair(one, other, many))


def accepts_of_book(word, book, parts, certificate):
    """Whether the certificate shows the claim of a book, `book` being its names and rows."""
    names, rows = book
    many = len(names)
    if word == "fits":
        return is_fitting(certificate, rows, many)
    if word == "quarrels":
        return shows_quarrel(certificate, rows, many)
    if word == "above":
        return shows_above(certificate, rows, many, parts)
    if word == "count":
        return certificate is None and is_whole(parts[0]) and parts[0] == count_rankings(rows, many)
    if word == "alike":
        return certificate is None and are_alike(names, rows, parts[0])
    if not is_row(parts[0], many):
        return False
    if word == "follows":
        return shows_following(certificate, rows, parts[0])
    return shows_open(certificate, rows, parts[0])


def accepts_of_case(word, case, one, certificate):
    """Whether the certificate shows the claim of a case, `case` being its names and marks."""
    names, marks = case
    if not isinstance(one, str) or one not in names:
        return False
    mine = marks[names.index(one)]
    rows = {name: row_between(mine, theirs) for name, theirs in zip(names, marks) if name != one}
    if word == "wins":
        return is_fitting(certificate, list(rows.values()), len(mine))
    if not isinstance(certificate, tuple) or not are_names(certificate):
        return False
    if not all([name in rows for name in certificate]):
        return False
    return do_quarrel([rows[name] for name in certificate], len(mine))


def accepts(claim, certificate):
    """Whether the certificate shows the claim; both may be any values."""
    if not isinstance(claim, tuple) or not claim or not isinstance(claim[0], str):
        return False
    word, *parts = claim
    if word not in LENGTHS or len(claim) != LENGTHS[word]:
        return False
    text, *others = parts
    if word in ("wins", "loses"):
        case = read_case(text)
        return case is not None and accepts_of_case(word, case, others[0], certificate)
    book = read_book(text)
    return book is not None and accepts_of_book(word, book, others, certificate)
