"""Which rows hold, which rankings fit, and the layers of a book."""

from rankedrules.books import check_book
from rankedrules.checks import check_ranking, check_row
from rankedrules.errors import NoRanking
from rankedrules.rows import all_hold, row_holds


def has_sign(row, rules, sign):
    """Whether the row has the sign for one of the rules."""
    return sign in [row[rule] for rule in rules]


def split(rows, many):
    """The layers made of so many rules, and the indexes of the rows that stay open."""
    made = []
    left = list(range(many))
    still = [index for index, row in enumerate(rows) if "+" in row or "-" in row]
    while still:
        barred = [rule for rule in left if "-" in [rows[index][rule] for index in still]]
        layer = [rule for rule in left if rule not in barred]
        if not layer:
            return made, still
        made.append(tuple(layer))
        left = barred
        still = [index for index in still if not has_sign(rows[index], layer, "+")]
    if left:
        made.append(tuple(left))
    return made, still


def some_fits(rows, many):
    """Whether all rows hold for some ranking of so many rules."""
    _, still = split(rows, many)
    return not still


def some_ranking(rows, many):
    """A ranking of so many rules for which all rows hold; there must be one."""
    made, _ = split(rows, many)
    return tuple([rule for layer in made for rule in layer])


def check_some_fits(book):
    """Raise NoRanking if no ranking fits the book."""
    if not some_fits(book.rows, len(book.names)):
        raise NoRanking()


def holds(book, row, ranking):
    """Whether the row holds for the ranking; the rows of the book are not asked."""
    check_book(book)
    check_row(row, len(book.names))
    check_ranking(ranking, len(book.names))
    return row_holds(row, ranking)


def fits(book, ranking):
    """Whether all rows of the book hold for the ranking."""
    check_book(book)
    check_ranking(ranking, len(book.names))
    return all_hold(book.rows, ranking)


def layers(book):
    """The layers of the book, from above; None if there are none."""
    check_book(book)
    made, still = split(book.rows, len(book.names))
    return None if still else tuple(made)


def left_over(book):
    """The indexes of the rows that stay open where the layers end; None if there are layers."""
    check_book(book)
    _, still = split(book.rows, len(book.names))
    return tuple(still) if still else None


def quarrel(book):
    """A lot of rows that quarrel, of which no smaller part does; None if none do."""
    check_book(book)
    return least_quarrel(book.rows, len(book.names))


def least_quarrel(rows, many):
    """A lot of these rows that quarrel, of which no smaller part does; None if none do."""
    _, kept = split(rows, many)
    for index in list(kept):
        fewer = [one for one in kept if one != index]
        # Rows quarrel, all of them or some, exactly if no ranking fits them. So what
        # remains when no row can be spared any more quarrels as a whole.
        if not some_fits([rows[one] for one in fewer], many):
            kept = fewer
    return tuple(kept) if kept else None
