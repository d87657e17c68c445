"""What the program must tell, worked out by going through all rankings one by one."""

import random
from functools import cache
from itertools import combinations, permutations, product

from rankedrules.books import Book
from rankedrules.cases import Case

NAMES = "abcdefgh"


def holds_for(row, ranking):
    """Whether the row holds for the ranking."""
    signs = [row[rule] for rule in ranking if row[rule] != "."]
    return signs == [] or signs[0] == "+"


def fitting(book):
    """All rankings that fit the book, ascending."""
    return fitting_rows(len(book.names), book.rows)


@cache
def fitting_rows(many, rows):
    """All rankings of so many rules for which the rows hold, ascending."""
    return [
        ranking for ranking in permutations(range(many))
        if all(holds_for(row, ranking) for row in rows)
    ]


def rules_above(ranking, rule):
    """The rules above this one."""
    return ranking[:ranking.index(rule)]


def parts(lot):
    """All parts of a lot, the short ones first, then as tuples."""
    for size in range(len(lot) + 1):
        yield from combinations(lot, size)


def all_rows(many):
    """All rows for so many rules."""
    return ["".join(signs) for signs in product("+-.", repeat=many)]


def book_of(many, rows):
    """The book with so many rules and these rows."""
    return Book(" ".join([" ".join(NAMES[:many]) + ":", *rows]))


def all_books(many, rows):
    """All books with so many rules and so many rows, in any order of the rows."""
    return [book_of(many, told) for told in product(all_rows(many), repeat=rows)]


def small_books():
    """All books of one and two rules with up to two rows, of three rules with up to one."""
    sizes = ((1, 0), (1, 1), (1, 2), (2, 0), (2, 1), (2, 2), (3, 0), (3, 1))
    return [book for many, rows in sizes for book in all_books(many, rows)]


def text_of(marks):
    """The text of a case with these marks, the names being letters."""
    return "; ".join(" ".join([name, *map(str, row)]) for name, row in zip(NAMES, marks))


def drawn_case(draw, candidates, rules, most):
    """A case of so many candidates and rules, with marks drawn from 0 to the greatest one."""
    return Case(text_of([[draw.randint(0, most) for _ in range(rules)] for _ in range(candidates)]))


def best(case, ranking):
    """The winners, found as those whose marks, read along the ranking, are least."""
    read = {name: [row[rule] for rule in ranking] for name, row in zip(case.names, case.marks)}
    return tuple(name for name in case.names if read[name] == min(read.values()))


def drawn_row(draw, many, signs):
    """A row whose signs are drawn from some."""
    return "".join(draw.choice(signs) for _ in range(many))


def drawn_books(seed, times, rules):
    """Books of so many rules, with rows of all kinds and numbers, always the same ones."""
    draw = random.Random(seed)
    books = []
    for many in rules:
        for _ in range(times):
            signs = draw.choice(("+-.", "+-....", "++-...", "+-", "+++-."))
            rows = [drawn_row(draw, many, signs) for _ in range(draw.choice((1, 2, 3, 4, 6, 9)))]
            books.append(book_of(many, rows))
    return books


def told_books(seed, times, rules):
    """Books of so many rules that some ranking fits, with up to twenty rows."""
    draw = random.Random(seed)
    books = []
    for many in rules:
        for _ in range(times):
            ranking = draw.sample(range(many), many)
            rows = [drawn_row(draw, many, "+-...") for _ in range(draw.choice((2, 5, 20)))]
            books.append(book_of(many, [row for row in rows if holds_for(row, ranking)]))
    return books
