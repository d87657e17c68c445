"""The checker: which certificates show which claims, and that what it accepts is true."""

import ast
import inspect
import random
import unittest
from itertools import combinations, permutations, product
from pathlib import Path

from rankedrules import checker
from rankedrules.books import Book
from rankedrules.cases import Case
from rankedrules.checker import accepts
from tests.brute import (
    all_rows, best, drawn_books, drawn_case, fitting, holds_for, parts, rules_above, small_books, told_books,
)
from tests.test_books import BENT as BENT_BOOKS
from tests.test_books import told_by_form as read_book
from tests.test_cases import BENT as BENT_CASES
from tests.test_cases import told_by_form as read_case
from tests.values import HUGE, OTHER_KINDS, Alike

PACKAGE = Path(__file__).resolve().parent.parent / "rankedrules"
WORDS = ("fits", "quarrels", "follows", "above", "open", "count", "alike", "wins", "loses")
SMALL, WIDE, BAD = "a b c: +-. .+-", "a b c: ++-", "a b c: +-. -+."
VANS = "ann 0 2 1; bob 1 0 1; cid 1 1 0; dan 1 2 1"
EIGHT = "a b c d e f g h:"


def quarrel(rows):
    """Whether rows quarrel, by the words of the document."""
    fused = ["-" if "-" in signs else "+" if "+" in signs else "." for signs in zip(*rows)]
    return "-" in fused and "+" not in fused


def turn(row):
    """The opposite of a row."""
    return row.translate(str.maketrans("+-", "-+"))


def pair_row(one, other, many):
    """The row with `+` for one rule and `-` for the other one."""
    return "".join("+" if rule == one else "-" if rule == other else "." for rule in range(many))


def case_rows(text, one):
    """The rows of a candidate against the others, by name."""
    names, marks = read_case(text)
    mine = marks[names.index(one)]
    return {
        name: "".join("+" if m < t else "-" if m > t else "." for m, t in zip(mine, theirs))
        for name, theirs in zip(names, marks) if name != one
    }


def is_ranking(value, many):
    """Whether the value is a ranking."""
    return value.__class__ is tuple and [one.__class__ for one in value] == [int] * many and {*value} == {*range(many)}


def is_lot(value, many):
    """Whether the value is an ascending tuple of indexes."""
    if value.__class__ is not tuple or any(one.__class__ is not int for one in value):
        return False
    return list(value) == sorted(set(value)) and set(value) <= set(range(many))


def shows_row(rows, row, certificate):
    """Whether the certificate shows that the row follows."""
    if not is_lot(certificate, len(rows)):
        return False
    lot = [rows[index] for index in certificate]
    return quarrel(lot) or quarrel([*lot, turn(row)]) or certificate == () and "-" not in row


def shows(claim, certificate):
    """Whether the certificate shows the claim, which is one, by the words of the document."""
    word = claim[0]
    if word in ("wins", "loses"):
        rows = case_rows(claim[1], claim[2])
        if word == "wins":
            many = len(list(rows.values())[0])
            return is_ranking(certificate, many) and all(holds_for(row, certificate) for row in rows.values())
        right = certificate.__class__ is tuple and all(name.__class__ is str and name in rows for name in certificate)
        return right and list(certificate) == sorted(set(certificate)) and quarrel([rows[name] for name in certificate])
    names, rows = read_book(claim[1])
    many = len(names)

    def fits(value):
        return is_ranking(value, many) and all(holds_for(row, value) for row in rows)
    if word == "fits":
        return fits(certificate)
    if word == "quarrels":
        return is_lot(certificate, len(rows)) and quarrel([rows[index] for index in certificate])
    if word == "follows":
        return shows_row(rows, claim[2], certificate)
    if word == "above":
        return shows_row(rows, pair_row(claim[2], claim[3], many), certificate)
    if word == "open":
        return (certificate.__class__ is tuple and len(certificate) == 2 and fits(certificate[0])
                and fits(certificate[1]) and holds_for(claim[2], certificate[0])
                and not holds_for(claim[2], certificate[1]))
    return certificate is None and is_true(claim)


def is_true(claim):
    """Whether the claim, which is one, is true, by going through all rankings."""
    word = claim[0]
    if word in ("wins", "loses"):
        case = Case(claim[1])
        seen = any(claim[2] in best(case, ranking) for ranking in permutations(range(len(case.marks[0]))))
        return seen == (word == "wins")
    fit = fitting(Book(claim[1]))
    if word in ("fits", "quarrels"):
        return (fit != []) == (word == "fits")
    if word == "count":
        return len(fit) == claim[2]
    if word == "alike":
        return read_book(claim[1])[0] == read_book(claim[2])[0] and fit == fitting(Book(claim[2]))
    if word == "above":
        return all(claim[2] in rules_above(ranking, claim[3]) for ranking in fit)
    told = {holds_for(claim[2], ranking) for ranking in fit}
    return len(told) == 2 if word == "open" else told <= {True}


def certificates_for(many, rows):
    """Certificates of all kinds for so many rules and rows, right ones and wrong ones."""
    rankings = list(permutations(range(many)))
    lots = list(parts(range(rows)))[:64]
    pairs = list(product(rankings, repeat=2)) if many < 4 else []
    bent = [lot[::-1] for lot in lots if len(lot) > 1] + [(*lot, rows) for lot in lots] + [(*lot, 0) for lot in lots]
    return [None, (), *rankings, *lots, *pairs, *bent, list(rankings[0]), list(lots[-1]), (rankings[0],)]


def book_claims(book, others):
    """Claims of all kinds about a book."""
    many, text = len(book.names), book.text
    claims = [("fits", text), ("quarrels", text)]
    for row in all_rows(many)[::1 if many < 3 else 4]:
        claims += [("follows", text, row), ("open", text, row)]
    claims += [("above", text, one, other) for one, other in permutations(range(many), 2)]
    claims += [("count", text, number) for number in (0, 1, 2, 3, 4, 6, -1)]
    return claims + [("alike", text, other.text) for other in others]


class AcceptsTest(unittest.TestCase):

    def check(self, claim, certificate):
        told = accepts(claim, certificate)
        self.assertIs(told, shows(claim, certificate), (claim, certificate))
        if told:
            self.assertTrue(is_true(claim), (claim, certificate))
        return told

    def test_all_claims_and_certificates_of_small_books(self):
        books = small_books()
        for at, book in enumerate(books):
            many = len(book.names)
            certificates = certificates_for(many, len(book.rows))
            others = [book, *books[at % 5::23]]
            for claim in book_claims(book, others):
                told = [self.check(claim, certificate) for certificate in certificates]
                self.assertEqual(any(told), is_true(claim), claim)

    def test_drawn_books(self):
        for book in drawn_books(101, 10, (3,)) + told_books(102, 6, (3, 4)):
            if len(book.rows) <= 6:
                certificates = certificates_for(len(book.names), len(book.rows))
                for claim in book_claims(book, [book]):
                    told = [self.check(claim, certificate) for certificate in certificates]
                    self.assertTrue(any(told) == is_true(claim) or claim[0] == "open", claim)

    def test_counts_and_books_that_are_alike(self):
        books = drawn_books(103, 12, (3, 4)) + told_books(104, 8, (3, 4, 5))
        for book in books:
            for number in range(len(fitting(book)) + 3):
                self.check(("count", book.text, number), None)
            for other in books:
                self.check(("alike", book.text, other.text), None)

    def test_wins_and_loses(self):
        draw = random.Random(105)
        for candidates, rules, most in product((2, 3, 4), (1, 2, 3), (1, 2, 3)):
            for _ in range(4):
                case = drawn_case(draw, candidates, rules, most)
                for one in case.names:
                    self.check_candidate(case, one, rules)

    def check_candidate(self, case, one, rules):
        rankings = list(permutations(range(rules)))
        lots = list(parts(case.names))
        bent = [lot[::-1] for lot in lots if len(lot) > 1] + [(*lot, "zz") for lot in lots] + [list(lots[-1])]
        for word in ("wins", "loses"):
            claim = (word, case.text, one)
            told = [self.check(claim, certificate) for certificate in (None, *rankings, *lots, *bent)]
            self.assertEqual(any(told), is_true(claim), claim)

    def test_edges(self):
        first = tuple(range(8))
        for claim, certificate, told in (
                (("fits", "a:"), (0,), True), (("fits", "a: -"), (0,), False), (("quarrels", "a: -"), (0,), True),
                (("quarrels", "a: -"), (), False), (("quarrels", "a: ."), (0,), False), (("quarrels", "a:"), (), False),
                (("fits", EIGHT), first, True), (("fits", EIGHT + " +-......" * 20), first, True),
                (("fits", EIGHT + " +-......" * 20), first[::-1], False),
                (("quarrels", EIGHT + " --------" * 20), (19,), True),
                (("quarrels", EIGHT + " --------" * 20), tuple(range(20)), True),
                (("quarrels", EIGHT + " --------" * 20), tuple(range(21)), False),
                (("follows", "a:", "+"), (), True), (("follows", "a:", "."), (), True), (("follows", "a:", "-"), (), False),
                (("follows", "a: -", "-"), (0,), True), (("follows", "a: -", "-"), (), False),
                (("follows", "a b: +- ..", "+-"), (0, 1), True), (("follows", "a b: +- ++", "+-"), (0, 1), True),
                (("follows", "a b: +- ++", "+-"), (1,), False), (("follows", "a b: +- ++", "++"), (1,), True),
                (("follows", "a b: +- ++", "++"), (), True), (("follows", "a b: +- -+", "-+"), (0, 1), True),
                (("follows", "a b: +- -+", "-+"), (1,), True), (("follows", "a b: +- -+", "-+"), (0,), False),
                (("above", "a b: +-", 0, 1), (0,), True), (("above", "a b: +-", 1, 0), (0,), False),
                (("above", "a b: +-", 0, 1), (), False), (("above", "a b: --", 1, 0), (0,), True),
                (("open", "a b:", "+-"), ((0, 1), (1, 0)), True), (("open", "a b:", "+-"), ((1, 0), (0, 1)), False),
                (("open", "a b:", "+-"), ((0, 1), (0, 1)), False), (("open", "a b:", ".."), ((0, 1), (1, 0)), False),
                (("open", "a b: +-", "+-"), ((0, 1), (1, 0)), False), (("count", "a:", 1), None, True),
                (("count", EIGHT, 40320), None, True), (("count", EIGHT, 40319), None, False),
                (("count", EIGHT + " --------", 0), None, True), (("count", EIGHT + " +-------" * 20, 5040), None, True),
                (("count", "a:", HUGE), None, False), (("count", "a:", -1), None, False), (("count", "a:", True), None, False),
                (("count", "a: -", False), None, False), (("count", "a:", 1), (), False), (("count", "a:", 1), 1, False),
                (("alike", "a:", "a: +"), None, True), (("alike", "a:", "b:"), None, False),
                (("alike", "a: -", "b: -"), None, False), (("alike", "a b: --", "a b: +- -+"), None, True),
                (("alike", "a b:", "a b: +-"), None, False), (("alike", "a b: +-", "a b:"), None, False),
                (("alike", "a:", "a: +"), (), False), (("alike", "a:", "a: +"), True, False),
                (("alike", EIGHT, EIGHT + " ++++++++" * 20), None, True),
                (("alike", EIGHT, EIGHT + " +++++++-" * 20), None, False),
                (("wins", "a 0; b 0", "a"), (0,), True), (("wins", "a 1; b 0", "a"), (0,), False),
                (("loses", "a 1; b 0", "a"), ("b",), True), (("loses", "a 1; b 0", "a"), (), False),
                (("loses", "a 1; b 0", "a"), ("a",), False), (("loses", "a 0 2; b 1 1; c 2 0", "b"), ("a", "c"), True),
                (("loses", "a 0 2; b 1 1; c 2 0", "b"), ("c", "a"), False),
                (("loses", "a 0 2; b 1 1; c 2 0", "b"), ("a",), False), (("wins", VANS, "bob"), (1, 0, 2), True),
                (("wins", VANS, "bob"), (0, 1, 2), False), (("wins", VANS, "eve"), (0, 1, 2), False)):
            with self.subTest(word=claim[0], at=str(claim[1])):
                self.assertIs(accepts(claim, certificate), told)

    def test_by_position_and_by_name(self):
        self.assertEqual(list(inspect.signature(accepts).parameters), ["claim", "certificate"])
        self.assertIs(accepts(claim=("fits", "a:"), certificate=(0,)), True)
        self.assertIs(accepts(certificate=(0,), claim=("fits", "a:")), True)
        self.assertIs(accepts(("fits", "a:"), certificate=(1,)), False)


# A claim of each kind with a certificate that shows it.
RIGHT = (
    (("fits", SMALL), (0, 1, 2)), (("quarrels", BAD), (0, 1)), (("follows", SMALL, "+.-"), (0, 1)),
    (("above", SMALL, 0, 2), (0, 1)), (("open", WIDE, "+-."), ((0, 2, 1), (1, 2, 0))), (("count", WIDE, 4), None),
    (("alike", SMALL, "a b c: +-- .+-"), None), (("wins", VANS, "bob"), (1, 2, 0)), (("loses", VANS, "dan"), ("ann", "bob")),
)
STRANGE = (
    *OTHER_KINDS, HUGE, (0, 1, 1), (0, 1, 3), (0, 1), (0, 1, 2, 3), (1, 2, 3), (-1, 0, 1), (True, 0, 2), (False, True, 2),
    [0, 1, 2], [0, 1], (0, True), (False, 1), (1, 0), (0, 0), (0, 2), (-1, 0), (0, 1, HUGE), (-HUGE, 0), ("0", "1"),
    "012", "01", (0, None), (0, [1]), ([0], 1), ({}, 0), ((0, 1), 2), (0, 1, Alike()), (Alike(), 1), Alike(),
    ((0, 2, 1),), ((0, 2, 1), (1, 2, 0), (0, 1, 2)), [(0, 2, 1), (1, 2, 0)], ((0, 2, 1), [1, 2, 0]),
    ((0, 2, 1), (1, 2)), ((0, 2), (1, 2, 0)), ((0, 2, 1), (1, 2, 2)), ((0, 2, 1), (1, 2, False)), ((0, 2, 1), None),
    ((1, 2, 0), (0, 2, 1)), ((2, 0, 1), (1, 2, 0)), ("bob", "ann"), ("ann", "ann"), ["ann", "bob"], ("ann", "eve"),
    ("ann", "dan"), ("ann", None), ("ann", 1), (["ann"], "bob"), ("ANN", "bob"), ("ann", "bob "), "ann", ("ann bob",),
    ({"ann": 1},), (b"ann", b"bob"), Book("a b c:"), Case(VANS), range(3), {0: 0, 1: 1}, (Book("a:"), Case(VANS)),
)


class WrongTest(unittest.TestCase):

    def test_each_right_claim_is_accepted(self):
        self.assertEqual([claim[0] for claim, _ in RIGHT], list(WORDS))
        for claim, certificate in RIGHT:
            self.assertIs(accepts(claim, certificate), True)

    def test_certificates_of_another_kind_of_claim(self):
        for claim, _ in RIGHT:
            for _, certificate in RIGHT:
                self.assertIs(accepts(claim, certificate), shows(claim, certificate), (claim, certificate))

    def test_certificates_that_are_none(self):
        for claim, certificate in RIGHT:
            for value in STRANGE:
                if value is None and certificate is None:
                    continue
                with self.subTest(word=claim[0], kind=value.__class__):
                    self.assertIs(accepts(claim, value), shows(claim, value))

    def test_which_of_these_values_are_certificates_all_the_same(self):
        told = [(claim[0], value) for claim, _ in RIGHT for value in STRANGE if value is not None and accepts(claim, value)]
        self.assertEqual(told, [("quarrels", (0, 1)), ("follows", (0, 1)), ("above", (0, 1))])

    def test_claims_with_a_part_more_or_less(self):
        for claim, certificate in RIGHT:
            for value in (None, 0, "a", "+.-", SMALL, VANS, ()):
                self.assertIs(accepts((*claim, value), certificate), False)
                self.assertIs(accepts((value, *claim), certificate), False)
            for many in range(len(claim)):
                self.assertIs(accepts(claim[:many], certificate), False)
                self.assertIs(accepts(claim[:many] + claim[many + 1:], certificate), False)

    def test_claims_with_another_word(self):
        for claim, certificate in RIGHT:
            for word in (*OTHER_KINDS, "", "Fits", "rows", "fits ", "FITS", "above follows", ("fits",), ["fits"], Alike()):
                self.assertIs(accepts((word, *claim[1:]), certificate), False)
            for word in WORDS:
                other = (word, *claim[1:])
                if word != claim[0] and (word in ("wins", "loses")) == (claim[0] in ("wins", "loses")):
                    told = accepts(other, certificate)
                    self.assertFalse(told and not is_true(other), (other, certificate))

    def test_claims_of_another_class(self):
        for claim, certificate in RIGHT:
            for value in (list(claim), claim[0], " ".join(map(str, claim)), {claim[0]: claim[1]}, (claim,), [claim]):
                self.assertIs(accepts(value, certificate), False)
        for value in (*OTHER_KINDS, Alike(), (Alike(),), (Alike(), Alike()), ((), ()), ([],), ({}, "a:")):
            for certificate in (None, (), (0,), value):
                with self.subTest(kind=value.__class__):
                    self.assertIs(accepts(value, certificate), False)

    def test_other_values_in_each_place(self):
        for claim, certificate in RIGHT:
            for at in range(1, len(claim)):
                for value in (*OTHER_KINDS, Alike(), [claim[at]], (claim[at],), HUGE, -HUGE, b"a:"):
                    # Other indexes of rules make another claim.
                    if value.__class__ is int and claim[0] == "above" and value in (0, 1, 2):
                        continue
                    with self.subTest(word=claim[0], at=at, kind=value.__class__):
                        self.assertIs(accepts((*claim[:at], value, *claim[at + 1:]), certificate), False)

    def test_texts_to_the_sign(self):
        for claim, certificate in RIGHT:
            for at in (1, 2) if claim[0] == "alike" else (1,):
                text = claim[at]
                bent = [text + " ", " " + text, text.upper(), text.replace(" ", "  ", 1), text + "\n", text[:-1], text[1:]]
                for value in bent:
                    with self.subTest(word=claim[0], text=value):
                        self.assertIs(accepts((*claim[:at], value, *claim[at + 1:]), certificate), False)

    def test_bent_texts(self):
        for text in BENT_BOOKS:
            for claim in (("fits", text), ("quarrels", text), ("follows", text, "+"), ("count", text, 1), ("count", text, 0),
                          ("alike", text, text), ("alike", "a:", text), ("alike", text, "a:"), ("above", text, 0, 1)):
                for certificate in (None, (), (0,), (0, 1), (1, 0)):
                    self.assertIs(accepts(claim, certificate), False, claim)
        for text in BENT_CASES:
            for claim, certificate in product((("wins", text, "a"), ("loses", text, "a")), ((0,), ("b",), (0, 1), ())):
                self.assertIs(accepts(claim, certificate), False, claim)

    def test_rows_and_rules_that_do_not_fit(self):
        for row in ("", "+", "+.", "+.-.", "x.-", "+.- ", "+ -", ["+", ".", "-"], ("+", ".", "-")):
            self.assertIs(accepts(("follows", SMALL, row), (0, 1)), False)
            self.assertIs(accepts(("follows", SMALL, row), ()), False)
            self.assertIs(accepts(("open", WIDE, row), ((0, 2, 1), (1, 2, 0))), False)
        for one, other in ((0, 0), (0, 3), (3, 0), (-1, 0), (0, -1), (True, 2), (False, 2), (0, True), ("0", 2), (0, None)):
            self.assertIs(accepts(("above", SMALL, one, other), (0, 1)), False)
            self.assertIs(accepts(("above", "a b c: ---", one, other), (0,)), False)
        self.assertIs(accepts(("above", "a b c: ---", 2, 0), (0,)), True)
        for number in ("4", 4 + HUGE, (4,), [4], None, 3, 5, -4, "", Alike()):
            self.assertIs(accepts(("count", WIDE, number), None), False)
        for name in ("eve", "", "dan ", "Dan", ("dan",), ["dan"], None, 3, 0, b"dan", Alike()):
            for certificate in ((1, 2, 0), ("ann", "bob"), ()):
                self.assertIs(accepts(("wins", VANS, name), certificate), False)
                self.assertIs(accepts(("loses", VANS, name), certificate), False)

    def test_a_book_is_no_text_of_one(self):
        self.assertIs(accepts(("fits", Book(SMALL)), (0, 1, 2)), False)
        self.assertIs(accepts(("wins", Case(VANS), "bob"), (1, 2, 0)), False)
        self.assertIs(accepts(("fits", VANS), (0, 1, 2)), False)
        self.assertIs(accepts(("wins", SMALL, "a"), (0, 1, 2)), False)


def imported_by(name):
    """The modules of the package that a module imports, all other ones by their full names."""
    tree = ast.parse((PACKAGE / f"{name}.py").read_text())
    found = {node.module for node in ast.walk(tree) if isinstance(node, ast.ImportFrom)}
    found |= {alias.name for node in ast.walk(tree) if isinstance(node, ast.Import) for alias in node.names}
    return {module.removeprefix("rankedrules.") for module in found}


class ImportsTest(unittest.TestCase):

    def test_what_the_checker_imports_also_by_way_of_others(self):
        found, left = set(), ["checker"]
        while left:
            for name in imported_by(left.pop()):
                if name not in found:
                    found.add(name)
                    left.append(name)
        self.assertEqual(found, {"checks", "errors", "limits", "reading", "rows"})

    def test_the_package_itself_imports_nothing(self):
        self.assertEqual(imported_by("__init__"), set())

    def test_what_works_out_certificates_is_not_known_to_the_checker(self):
        for name in ("least_quarrel", "some_fits", "some_ranking", "count_fitting", "split", "steps", "Book", "Case"):
            self.assertFalse(hasattr(checker, name))


class MoreTest(unittest.TestCase):

    def test_all_pairs_of_rankings_for_what_is_open(self):
        for text in ("a b c: ++-", "a b c:", "a b c: +-."):
            for row in all_rows(3)[::2]:
                for pair in product(permutations(range(3)), repeat=2):
                    claim = ("open", text, row)
                    self.assertIs(accepts(claim, pair), shows(claim, pair), (claim, pair))

    def test_all_lots_of_twenty_rows(self):
        draw = random.Random(106)
        text = "a b c: " + " ".join(draw.choice(("+-.", ".+-", "++-", "-.+", "...")) for _ in range(20))
        for size in (1, 2, 3, 20):
            for lot in list(combinations(range(20), size))[::7]:
                for claim in (("quarrels", text), ("follows", text, "+.-"), ("above", text, 0, 2)):
                    self.assertIs(accepts(claim, lot), shows(claim, lot))


if __name__ == "__main__":
    unittest.main()
