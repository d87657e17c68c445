"""Veils: their texts and properties, the brightest and darkest cases, who can win, and what tells."""

import random
import re
import unittest
from itertools import product

from rankedrules.books import Book
from rankedrules.cases import Case
from rankedrules.errors import InvalidText, NoRanking, NotACase, TooMany, UnknownName
from rankedrules.judging import possible
from rankedrules.veils import Veil, brightest, can_win, darkest, must_win, telling
from tests.arguments import A_VEIL, NO_BOOKS, NO_VEILS, QUARRELLING, WRONG_VEILS, ArgumentsCase, unknown_names
from tests.brute import best, drawn_books, fitting, small_books, told_books
from tests.test_books import bent_by_one_character
from tests.test_cases import BENT as BENT_CASES
from tests.test_cases import GOOD as GOOD_CASES
from tests.values import OTHER_KINDS, Alike, error_of, raised

EIGHT = "a b c d e f g h:"
EIGHT_NAMES = "abcdefgh"

GOOD = {
    "a 0; b 0-1": (("a", "b"), (((0, 0),), ((0, 1),))),
    "a 0-99; b 98-99": (("a", "b"), (((0, 99),), ((98, 99),))),
    "ann 0 1-2; bob 1 0-3": (("ann", "bob"), (((0, 0), (1, 2)), ((1, 1), (0, 3)))),
    "a 9-10 0-10; bb 10-11 7": (("a", "bb"), (((9, 10), (0, 10)), ((10, 11), (7, 7)))),
    "; ".join(name + " 0-99" * 8 for name in EIGHT_NAMES): (tuple(EIGHT_NAMES), (((0, 99),) * 8,) * 8),
    **{text: (names, tuple(tuple((mark, mark) for mark in row) for row in marks))
       for text, (names, marks) in GOOD_CASES.items()},
}
BENT = (
    *[text for text in BENT_CASES if text != "a 1-3; b 0"],
    "a 0-0; b 0", "a 1-1; b 0", "a 1-0; b 0", "a 99-0; b 0", "a 99-99; b 0", "a 0-100; b 0", "a 99-100; b 0",
    "a 100-101; b 0", "a 0-01; b 0", "a 00-1; b 0", "a 01-2; b 0", "a 0-1-2; b 0", "a -1; b 0", "a 1-; b 0",
    "a -; b 0", "a --1; b 0", "a 0--1; b 0", "a -0-1; b 0", "a +0-1; b 0", "a 0-+1; b 0", "a 0 -1; b 0",
    "a 0- 1; b 0", "a 0 - 1; b 0", "a 0-1 ; b 0", "a 0-1; b", "a 0-1;b 0", "a 0-1 2; b 0", "a 0-1", "a-b 0-1; c 0",
    "a 0.1; b 0", "a 0..1; b 0", "a 0/1; b 0", "a 0-x; b 0", "a x-1; b 0", "a 0:1; b 0", "a 0_1; b 0", "b 0-1; a 0",
    "a 0-1; a 0-1", "a 0-1; b 0\n", "a 0-\n1; b 0", "a 0-" + "9" * 3900 + "; b 0", "a 1-10-; b 0",
    "; ".join(name + " 0-9" for name in "abcdefghi"), "a" + " 0-1" * 9 + "; b" + " 0" * 9, "0-1 a; 0 b",
)


def told_by_form(text):
    """The names and marks by the form of the text alone, None if it is no text of a veil."""
    number = r"(?:0|[1-9][0-9]?)"
    candidate = rf"[a-z]{{1,8}}(?: {number}(?:-{number})?){{1,8}}"
    if re.fullmatch(rf"{candidate}(?:; {candidate}){{1,7}}", text) is None:
        return None
    words = [part.split() for part in text.split(";")]
    names = [part[0] for part in words]
    marks = [tuple(tuple(map(int, word.split("-"))) for word in part[1:]) for part in words]
    if names != sorted(set(names)) or len({len(row) for row in marks}) != 1:
        return None
    if any(len(mark) == 2 and mark[0] >= mark[1] for row in marks for mark in row):
        return None
    return tuple(names), tuple(tuple((mark[0], mark[-1]) for mark in row) for row in marks)


class TextTest(unittest.TestCase):

    def test_a_veil_is_made_of_its_text(self):
        for text, (names, marks) in GOOD.items():
            with self.subTest(text=text):
                veil = Veil(text)
                self.assertEqual((veil.text, veil.names, veil.marks), (text, names, marks))
                self.assertEqual({row.__class__ for row in (veil.names, veil.marks, *veil.marks)}, {tuple})
                self.assertEqual({pair.__class__ for row in veil.marks for pair in row}, {tuple})
                self.assertEqual({mark.__class__ for row in veil.marks for pair in row for mark in pair}, {int})

    def test_a_text_that_is_bent_makes_no_veil(self):
        for text in BENT:
            with self.subTest(text=text[:80]):
                self.assertEqual(error_of(Veil, text), (InvalidText, {"given": text}))

    def test_a_value_of_another_kind_makes_no_veil(self):
        for value in (*OTHER_KINDS, A_VEIL, b"a 0; b 0-1", ["a 0; b 0-1"], ("a 0; b 0-1",)):
            with self.subTest(kind=value.__class__):
                error = raised(Veil, value)
                self.assertIs(error.__class__, InvalidText)
                self.assertIs(error.given, value)

    def test_texts_bent_by_one_character(self):
        for text in ("a 0-1; b 0", "a 10-11 9; bb 9 0-90; c 0 1", "abcdefgh 1; x 2-20"):
            for bent in bent_by_one_character(text):
                with self.subTest(bent=bent):
                    self.check_as_told_by_form(bent)

    def check_as_told_by_form(self, text):
        told = told_by_form(text)
        if told is None:
            self.assertEqual(error_of(Veil, text), (InvalidText, {"given": text}))
        else:
            veil = Veil(text)
            self.assertEqual((veil.names, veil.marks, veil.text), (*told, text))

    def test_all_stretches_and_the_first_ones_beyond(self):
        for least, greatest in product((-1, 0, 1, 9, 10, 11, 50, 98, 99, 100, 101), repeat=2):
            text = f"a 0 {least}-{greatest}; b 0 0"
            with self.subTest(text=text):
                self.assertEqual(raised(Veil, text) is None, 0 <= least < greatest <= 99)

    def test_a_stretch_makes_no_case(self):
        for text, (_, marks) in GOOD.items():
            with self.subTest(text=text):
                told = any(least != greatest for row in marks for least, greatest in row)
                self.assertEqual(raised(Case, text) is not None, told)

    def test_so_many_candidates_and_rules_as_the_limits_let(self):
        for many in range(1, 12):
            for rules in range(12):
                text = "; ".join(name + " 5-6" * rules for name in "abcdefghijkl"[:many])
                with self.subTest(many=many, rules=rules):
                    self.assertEqual(raised(Veil, text) is None, 2 <= many <= 8 and 1 <= rules <= 8)

    def test_the_text_can_be_passed_by_name(self):
        self.assertEqual(Veil(text="a 0; b 0-1").text, "a 0; b 0-1")
        self.assertEqual(error_of(Veil, text="a 0-1"), (InvalidText, {"given": "a 0-1"}))


class ObjectTest(unittest.TestCase):

    def test_str_and_repr(self):
        for text, (names, _) in GOOD.items():
            with self.subTest(text=text):
                self.assertEqual(str(Veil(text)), text)
                self.assertEqual(repr(Veil(text)), f"Veil of {len(names)} candidates")
        self.assertEqual(repr(Veil("a 0; b 0-1")), "Veil of 2 candidates")

    def test_equal_if_the_texts_are(self):
        texts = [*GOOD, "a 0-1; b 0", "a 0-2; b 0", "a 0-1; c 0", "a 0; b 1"]
        for one, other in product(texts, repeat=2):
            with self.subTest(one=one, other=other):
                self.assertIs(Veil(one) == Veil(other), one == other)
                self.assertIs(Veil(one) != Veil(other), one != other)

    def test_never_equal_to_a_value_of_another_class(self):
        for value in (*OTHER_KINDS, A_VEIL.text, A_VEIL.names, A_VEIL.marks, [A_VEIL], (A_VEIL,), Alike()):
            with self.subTest(kind=value.__class__):
                self.assertIs(A_VEIL == value, False)
                self.assertIs(A_VEIL != value, True)

    def test_never_equal_to_a_case(self):
        for text in GOOD_CASES:
            self.assertIs(Veil(text) == Case(text), False)
            self.assertIs(Case(text) == Veil(text), False)
            self.assertIs(Veil(text) != Case(text), True)
            self.assertIs(Case(text) != Veil(text), True)

    def test_true_as_a_condition(self):
        for text in GOOD:
            self.assertIs(bool(Veil(text)), True)

    def test_a_veil_never_changes(self):
        veil = Veil("a 0-1; b 1")
        for name in ("text", "names", "marks"):
            with self.assertRaises(AttributeError):
                setattr(veil, name, "a 0; b 1")
        self.assertEqual(brightest(veil, "a"), brightest(veil, "a"))
        self.assertEqual((veil.text, veil.names, veil.marks), ("a 0-1; b 1", ("a", "b"), (((0, 1),), ((1, 1),))))

    def test_each_listed_property_stands_in_the_class_itself(self):
        for name in ("text", "names", "marks"):
            self.assertIsInstance(vars(Veil)[name], property)


def cases_of(veil):
    """All cases with numbers from the stretches, each with its numbers in one tuple."""
    cells = [range(least, greatest + 1) for row in veil.marks for least, greatest in row]
    rules = len(veil.marks[0])
    for way in product(*cells):
        rows = [way[at * rules:(at + 1) * rules] for at in range(len(veil.names))]
        yield way, Case("; ".join(" ".join([name, *map(str, row)]) for name, row in zip(veil.names, rows)))


def drawn_veil(draw, candidates, rules, ways):
    """A veil of so many candidates and rules, with at most so many cases."""
    cells, left = [], ways
    for _ in range(candidates * rules):
        least = draw.randint(0, 3)
        width = draw.choice((0, 0, 1, 1, 2, 3))
        if left < width + 1:
            width = 0
        left //= width + 1
        cells.append(f"{least}-{least + width}" if width else str(least))
    draw.shuffle(cells)
    rows = [" ".join([name, *cells[at * rules:(at + 1) * rules]]) for at, name in enumerate(EIGHT_NAMES[:candidates])]
    return Veil("; ".join(rows))


def drawn_pairs():
    """Books that some ranking fits, each with a veil that fits it, always the same ones."""
    draw = random.Random(51)
    books = [book for book in small_books()[::3] + drawn_books(52, 20, (2, 3, 4)) if fitting(book)]
    books += told_books(53, 15, (3, 4))
    return [
        (book, drawn_veil(draw, draw.choice((2, 2, 3, 4)), len(book.names), draw.choice((4, 12, 36, 72))))
        for book in books
    ]


PAIRS = drawn_pairs()


class BrightestTest(ArgumentsCase):

    def test_the_numbers_of_the_candidate_and_of_all_others(self):
        for _, veil in PAIRS:
            for one in veil.names:
                light, dark = brightest(veil, one), darkest(veil, one)
                self.assertEqual((light.__class__, light.names), (Case, veil.names))
                self.assertEqual((dark.__class__, dark.names), (Case, veil.names))
                for name, row, bright, dim in zip(veil.names, veil.marks, light.marks, dark.marks):
                    least, greatest = tuple(low for low, _ in row), tuple(high for _, high in row)
                    self.assertEqual((bright, dim), (least, greatest) if name == one else (greatest, least))

    def test_edges(self):
        for text, one, light, dark in (
                ("a 0; b 1", "a", "a 0; b 1", "a 0; b 1"), ("a 0-99; b 0-99", "b", "a 99; b 0", "a 0; b 99"),
                ("a 1-2; b 3; c 4-50", "b", "a 2; b 3; c 50", "a 1; b 3; c 4"),
                ("a 0 1-2; b 1 0-3", "a", "a 0 1; b 1 3", "a 0 2; b 1 0")):
            with self.subTest(text=text, one=one):
                self.assertEqual(str(brightest(Veil(text), one)), light)
                self.assertEqual(str(darkest(Veil(text), one)), dark)

    def test_eight_candidates_and_eight_rules(self):
        veil = Veil("; ".join(name + " 0-99" * 8 for name in EIGHT_NAMES))
        low, high = " 0" * 8, " 99" * 8
        self.assertEqual(brightest(veil, "d").text, "; ".join(name + (low if name == "d" else high) for name in EIGHT_NAMES))
        self.assertEqual(darkest(veil, "d").text, "; ".join(name + (high if name == "d" else low) for name in EIGHT_NAMES))

    def test_arguments(self):
        for veil in (Veil("ann 0 2-3 1; bob 1 0 1; cid 1 1 0-9"), Veil("a 0; b 1")):
            right = {"veil": veil, "one": veil.names[1]}
            wrong = {"veil": NO_VEILS, "one": unknown_names(veil.names)}
            for function in (brightest, darkest):
                self.check_arguments(function, right, wrong)


class CanWinTest(ArgumentsCase):

    def test_all_numbers_and_all_rankings_gone_through(self):
        for book, veil in PAIRS:
            fit = fitting(book)
            told = [set(best(case, ranking)) for _, case in cases_of(veil) for ranking in fit]
            with self.subTest(book=book.text, veil=veil.text):
                self.assertEqual(can_win(book, veil), tuple(sorted(set.union(*told))))
                self.assertEqual(must_win(book, veil), tuple(sorted(set.intersection(*told))))

    def test_a_veil_without_stretches_is_as_a_case(self):
        for text in ("a 0 1; b 1 0", "a 0 0; b 0 1", "a 2 2; b 2 2; c 0 3"):
            for book in small_books():
                if len(book.names) == 2 and fitting(book):
                    self.assertEqual(can_win(book, Veil(text)), possible(book, Case(text)))

    def test_edges(self):
        wide = "; ".join(name + " 0-99" * 8 for name in EIGHT_NAMES)
        for text, told, some, each in (
                ("a:", "a 0-1; b 1-2", ("a", "b"), ("a",)), ("a:", "a 0-1; b 2-3", ("a",), ("a",)),
                ("a:", "a 0-99; b 0", ("a", "b"), ("b",)), ("a:", "a 0-99; b 0-99", ("a", "b"), ()),
                ("a b: +-", "a 0 1-2; b 1 0-3", ("a",), ("a",)), ("a b: -+", "a 0 1-2; b 1 0-3", ("a", "b"), ()),
                (EIGHT, wide, tuple(EIGHT_NAMES), ()), (EIGHT + " ........" * 20, wide, tuple(EIGHT_NAMES), ()),
                (EIGHT + " +-------" * 20, "a" + " 0" * 8 + "; b" + " 1-99" * 8, ("a",), ("a",))):
            with self.subTest(text=text, veil=told):
                self.assertEqual(can_win(Book(text), Veil(told)), some)
                self.assertEqual(must_win(Book(text), Veil(told)), each)

    def test_arguments(self):
        right = {"book": Book("a b c: ++-"), "veil": A_VEIL}
        wrong = {"book": NO_BOOKS, "veil": WRONG_VEILS}
        for function in (can_win, must_win, telling):
            self.check_arguments(function, right, wrong)
            self.check_no_ranking(function, right, wrong)


def telling_by_words(book, veil):
    """The stretches that tell, by going through all pairs of numbers in each of them."""
    answers = {way: possible(book, case) for way, case in cases_of(veil)}
    rules = len(book.names)
    found = []
    for at, (least, greatest) in enumerate(pair for row in veil.marks for pair in row):
        for way in answers:
            others = [way[:at] + (number,) + way[at + 1:] for number in range(least, greatest + 1)]
            if len({answers[other] for other in others}) > 1:
                found.append((veil.names[at // rules], at % rules))
                break
    return tuple(found)


class TellingTest(ArgumentsCase):

    def test_all_numbers_gone_through(self):
        for book, veil in PAIRS:
            with self.subTest(book=book.text, veil=veil.text):
                self.assertEqual(telling(book, veil), telling_by_words(book, veil))

    def test_edges(self):
        for text, told, places in (
                ("a:", "a 0; b 1", ()), ("a:", "a 0-1; b 5", ()), ("a:", "a 0-5; b 5", (("a", 0),)),
                ("a:", "a 0-1; b 1-2", (("a", 0), ("b", 0))), ("a b: +-", "a 0 1-2; b 1 0-3", ()),
                ("a b: -+", "a 0 1-2; b 1 0-3", (("a", 1), ("b", 1))),
                ("a b c:", "a 0 0 0-99; b 0 0 5; c 9 9 9", (("a", 2),)), ("a b c:", "a 0 1 0; b 1 1 1; c 9 0-9 9", (("c", 1),)),
                ("a b c:", "a 0 0 0; b 1 1 1; c 9 0-9 9", ()),
                ("a b c: +-- ...", "a 0 0-9 0; b 1 1 1", ())):
            with self.subTest(text=text, veil=told):
                self.assertEqual(telling(Book(text), Veil(told)), places)

    def test_names_come_ahead_of_rules(self):
        told = telling(Book("a b:"), Veil("a 0-2 0-2; b 0-2 0-2; c 1 1"))
        self.assertEqual(told, (("a", 0), ("a", 1), ("b", 0), ("b", 1)))

    def test_a_stretch_that_tells_only_beside_one_number_of_another_one(self):
        book = Book("a b: +-")
        self.assertEqual(telling(book, Veil("a 0-1 0-9; b 0 5")), (("a", 0), ("a", 1)))
        self.assertEqual(telling(book, Veil("a 2-3 0-9; b 1 5")), ())
        self.assertEqual(telling(book, Veil("a 1-3 0-5; b 1 5")), (("a", 0), ("a", 1)))

    def test_just_five_hundred_ways_and_more(self):
        book = Book("a b c:")
        for stretches, number in (
                (("0-99", "0-4", "0"), 500), (("1-50", "90-99", "3"), 500), (("0-4", "0-9", "0-9"), 500),
                (("0-99", "0-5", "0"), 600), (("0-2", "0-2", "0-55"), 504), (("0-99", "0-99", "0-99"), 1000000)):
            veil = Veil(f"a {' '.join(stretches)}; b 9 9 9")
            with self.subTest(stretches=stretches):
                if number == 500:
                    self.assertEqual(telling(book, veil), telling_by_words(book, veil))
                else:
                    self.assertEqual(error_of(telling, book, veil), (TooMany, {"number": number}))

    def test_ways_are_counted_over_all_candidates(self):
        book = Book("a:")
        self.assertEqual(error_of(telling, book, Veil("a 0-99; b 0-5")), (TooMany, {"number": 600}))
        self.assertEqual(error_of(telling, book, Veil("a 0-2; b 0-3; c 0-41; d 5")), (TooMany, {"number": 504}))
        self.assertEqual(len(telling(book, Veil("a 0-99; b 0-4"))), 2)

    def test_as_many_ways_as_there_can_be(self):
        veil = Veil("; ".join(name + " 0-99" * 8 for name in EIGHT_NAMES))
        self.assertEqual(error_of(telling, Book(EIGHT), veil), (TooMany, {"number": 100 ** 64}))

    def test_no_ranking_comes_ahead_of_too_many(self):
        many = Veil("a 0-99 0-99 0; b 0 0 0")
        for text in QUARRELLING:
            self.assertEqual(error_of(telling, Book(text), many), (NoRanking, {}))
        narrow = Veil("a 0-99 0-99; b 0 0")
        self.assertEqual(error_of(telling, Book("a b c: ---"), narrow), (NotACase, {"given": narrow}))

    def test_too_many_is_last(self):
        many = Veil("a 0-99 0-99 0; b 0 0 0")
        self.assertEqual(error_of(telling, Book("a b c:"), many), (TooMany, {"number": 10000}))
        for value, error, attributes in NO_BOOKS:
            self.check_error(telling, {"book": value, "veil": many}, error, attributes)


if __name__ == "__main__":
    unittest.main()
