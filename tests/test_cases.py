"""Cases: their texts and properties, rows of candidates, winners, and who never wins."""

import random
import re
import unittest
from itertools import combinations, permutations, product

from rankedrules.books import Book, opposite
from rankedrules.cases import Case, against, barred, told_by, winners
from rankedrules.errors import InvalidText, UnknownName
from rankedrules.layers import holds
from tests.arguments import A_CASE, NO_CASES, WRONG_RANKINGS, ArgumentsCase, unknown_names
from tests.brute import best, drawn_case, text_of
from tests.test_books import bent_by_one_character
from tests.values import OTHER_KINDS, Alike, error_of, raised

EIGHT_NAMES = ("a", "bb", "cc", "dddddddd", "e", "f", "g", "zzzzzzzz")
EIGHT_TEXT = "; ".join(f"{name} {' '.join(str((at * 7 + rule * 5) % 9) for rule in range(8))}"
                       for at, name in enumerate(EIGHT_NAMES))

GOOD = {
    "a 0; b 0": (("a", "b"), ((0,), (0,))),
    "a 99; b 10": (("a", "b"), ((99,), (10,))),
    "a 0 99; aa 9 1": (("a", "aa"), ((0, 99), (9, 1))),
    "ann 0 2 1; bob 1 0 1": (("ann", "bob"), ((0, 2, 1), (1, 0, 1))),
    "abcdefgh 1; zzzzzzzz 20": (("abcdefgh", "zzzzzzzz"), ((1,), (20,))),
    "a 0 1 2 3 4 5 6 7; b 99 98 97 96 95 94 93 92": (
        ("a", "b"), ((0, 1, 2, 3, 4, 5, 6, 7), (99, 98, 97, 96, 95, 94, 93, 92))),
    "; ".join(f"{name} 5" for name in EIGHT_NAMES): (EIGHT_NAMES, ((5,),) * 8),
    EIGHT_TEXT: (EIGHT_NAMES, tuple(tuple((at * 7 + rule * 5) % 9 for rule in range(8)) for at in range(8))),
}

BENT = (
    "", " ", ";", "; ", "a", "a 0", "a 0;", "a 0; ", "a; b", "a 0; b", "a; b 0", "a 0;b 0", "a 0;  b 0", "a 0 ; b 0",
    " a 0; b 0", "a 0; b 0 ", "a 0; b 0;", "a 0; b 0; ", "; a 0; b 0", "a  0; b 0", "a 0; b  0", "a 0 0; b 0",
    "a 0; b 0 0", "a 0 0; b 0 0; c 0", "a 0  0; b 0 0", "b 0; a 0", "a 0; a 0", "a 0; b 0; b 1", "a 0; c 0; b 0",
    "A 0; b 0", "a1 0; b 0", "1 0; b 0", "abcdefghi 0; b 0", "a abcdefgh 0; b 0", "a_ 0; b 0", "a-b 0; c 0",
    "a 100; b 0", "a 0; b 100", "a 00; b 0", "a 01; b 0", "a 0; b 09", "a 007; b 0", "a 999; b 0", "a 1000; b 0",
    "a -1; b 0", "a +1; b 0", "a -0; b 0", "a 1.0; b 0", "a 1e1; b 0", "a 0x1; b 0", "a 1_0; b 0", "a x; b 0",
    "a 1-3; b 0", "a 1/2; b 0", "a 0, b 0", "a: 0; b: 0", "a 0\nb 0", "a 0;\nb 0", "a 0; b 0\n", "\na 0; b 0",
    "a 0: b 0", "a 0; b 0; c", "a 0 b 0", "0 a; 0 b", "a 0 1 2 3 4 5 6 7 8; b 0 1 2 3 4 5 6 7 8",
    "a 0 1 2 3 4 5 6 7; b 0 1 2 3 4 5 6 7 8", "; ".join(f"{name} 0" for name in "abcdefghi"),
    "a " + "9" * 3990 + "; b 0", "a 0" + " " * 3000 + "; b 0", "a b: +-", "ann 0 2 1", "a 0; 0", "a 0; ; b 0",
)


def told_by_form(text):
    """The names and marks by the form of the text alone, None if it is no text of a case."""
    candidate = r"[a-z]{1,8}(?: (?:0|[1-9][0-9]?)){1,8}"
    if re.fullmatch(rf"{candidate}(?:; {candidate}){{1,7}}", text) is None:
        return None
    words = [part.split() for part in text.split(";")]
    names, marks = [part[0] for part in words], [tuple(map(int, part[1:])) for part in words]
    if names != sorted(set(names)) or len({len(row) for row in marks}) != 1:
        return None
    return tuple(names), tuple(marks)


class TextTest(unittest.TestCase):

    def test_a_case_is_made_of_its_text(self):
        for text, (names, marks) in GOOD.items():
            with self.subTest(text=text):
                case = Case(text)
                self.assertEqual((case.text, case.names, case.marks), (text, names, marks))
                self.assertEqual((case.names.__class__, case.marks.__class__), (tuple, tuple))
                self.assertEqual({row.__class__ for row in case.marks}, {tuple})
                self.assertEqual({mark.__class__ for row in case.marks for mark in row}, {int})

    def test_a_text_that_is_bent_makes_no_case(self):
        for text in BENT:
            with self.subTest(text=text[:80]):
                self.assertEqual(error_of(Case, text), (InvalidText, {"given": text}))

    def test_a_value_of_another_kind_makes_no_case(self):
        for value in (*OTHER_KINDS, A_CASE, b"a 0; b 0", ["a 0; b 0"], ("a 0; b 0",)):
            with self.subTest(kind=value.__class__):
                error = raised(Case, value)
                self.assertIs(error.__class__, InvalidText)
                self.assertIs(error.given, value)

    def test_texts_bent_by_one_character(self):
        for text in ("a 0; b 0", "a 10 9; bb 99 0; c 0 1", "abcdefgh 1; x 20"):
            for bent in bent_by_one_character(text):
                with self.subTest(bent=bent):
                    self.check_as_told_by_form(bent)

    def check_as_told_by_form(self, text):
        told = told_by_form(text)
        if told is None:
            self.assertEqual(error_of(Case, text), (InvalidText, {"given": text}))
        else:
            case = Case(text)
            self.assertEqual((case.names, case.marks, case.text), (*told, text))

    def test_so_many_candidates_and_rules_as_the_limits_let(self):
        for many in range(1, 12):
            for rules in range(12):
                text = "; ".join(name + " 5" * rules for name in "abcdefghijkl"[:many])
                with self.subTest(many=many, rules=rules):
                    self.assertEqual(raised(Case, text) is None, 2 <= many <= 8 and 1 <= rules <= 8)

    def test_all_marks_and_the_first_ones_beyond(self):
        for mark in range(-3, 130):
            with self.subTest(mark=mark):
                self.assertEqual(raised(Case, f"a 0; b {mark}") is None, 0 <= mark <= 99)
                self.assertEqual(raised(Case, f"a {mark} 0; b 0 0") is None, 0 <= mark <= 99)
        for digit in range(10):
            self.assertIs(raised(Case, f"a 0{digit}; b 0").__class__, InvalidText)

    def test_names_of_each_length(self):
        for length in range(12):
            with self.subTest(length=length):
                self.assertEqual(raised(Case, "a 0; " + "k" * length + " 0") is None, 1 <= length <= 8)

    def test_the_text_can_be_passed_by_name(self):
        self.assertEqual(Case(text="a 0; b 1").text, "a 0; b 1")
        self.assertEqual(error_of(Case, text="a 0"), (InvalidText, {"given": "a 0"}))


class ObjectTest(unittest.TestCase):

    def test_str_and_repr(self):
        for text, (names, _) in GOOD.items():
            with self.subTest(text=text):
                self.assertEqual(str(Case(text)), text)
                self.assertEqual(repr(Case(text)), f"Case of {len(names)} candidates")
        self.assertEqual(repr(Case("ann 0; bob 1; cid 2")), "Case of 3 candidates")

    def test_equal_if_the_texts_are(self):
        texts = [*GOOD, "a 0; b 1", "a 1; b 0", "a 0; c 0", "a 0 0; b 0 0", "a 0; b 0; c 0"]
        for one, other in product(texts, repeat=2):
            with self.subTest(one=one, other=other):
                self.assertIs(Case(one) == Case(other), one == other)
                self.assertIs(Case(one) != Case(other), one != other)

    def test_never_equal_to_a_value_of_another_class(self):
        for value in (*OTHER_KINDS, A_CASE.text, A_CASE.names, A_CASE.marks, [A_CASE], (A_CASE,), Alike()):
            with self.subTest(kind=value.__class__):
                self.assertIs(A_CASE == value, False)
                self.assertIs(A_CASE != value, True)
        self.assertIs(Book("a:") == A_CASE, False)

    def test_true_as_a_condition(self):
        for text in GOOD:
            self.assertIs(bool(Case(text)), True)

    def test_a_case_never_changes(self):
        case = Case("a 0 1; b 1 0")
        for name in ("text", "names", "marks"):
            with self.assertRaises(AttributeError):
                setattr(case, name, "a 0; b 1")
        self.assertEqual(told_by(case, "a"), told_by(case, "a"))
        self.assertEqual((case.text, case.names, case.marks), ("a 0 1; b 1 0", ("a", "b"), ((0, 1), (1, 0))))

    def test_each_listed_property_stands_in_the_class_itself(self):
        for name in ("text", "names", "marks"):
            self.assertIsInstance(vars(Case)[name], property)


def drawn_cases():
    """Cases of all sizes, with many marks that are the same, always the same ones."""
    draw = random.Random(31)
    cases = [Case(text_of(marks)) for marks in product(product(range(3), repeat=2), repeat=3)]
    for many, rules in product((2, 3, 5, 8), (1, 2, 3, 4, 5)):
        for most in (1, 2, 3, 99):
            cases.append(drawn_case(draw, many, rules, most))
    return cases


CASES = drawn_cases()


def row_by_words(mine, theirs):
    """The row of one candidate against another one, by their marks."""
    return "".join("+" if one < other else "-" if one > other else "." for one, other in zip(mine, theirs))


class AgainstTest(ArgumentsCase):

    def test_each_pair_of_marks(self):
        for one, other in product((0, 1, 9, 10, 98, 99), repeat=2):
            sign = "+" if one < other else "-" if one > other else "."
            self.assertEqual(against(Case(f"a {one}; b {other}"), "a", "b"), sign)

    def test_all_pairs_of_candidates(self):
        for case in CASES:
            for (one, mine), (other, theirs) in permutations(zip(case.names, case.marks), 2):
                self.assertEqual(against(case, one, other), row_by_words(mine, theirs), case.text)

    def test_the_other_way_round_it_is_the_opposite(self):
        for case in CASES[::7]:
            for one, other in combinations(case.names, 2):
                self.assertEqual(opposite(against(case, one, other)), against(case, other, one))

    def test_eight_candidates_and_eight_rules(self):
        case = Case(EIGHT_TEXT)
        self.assertEqual(against(case, "a", "zzzzzzzz"), row_by_words(case.marks[0], case.marks[7]))
        self.assertEqual(against(Case("a 0 0 0 0 0 0 0 0; b 99 99 99 99 99 99 99 99"), "b", "a"), "--------")

    def test_the_same_name_twice(self):
        case = Case("ann 0; bob 0; cid 1")
        for name in case.names:
            self.assertEqual(error_of(against, case, name, name), (UnknownName, {"given": name}))
            self.assertEqual(error_of(against, case, other=name, one=name), (UnknownName, {"given": name}))

    def test_arguments(self):
        for case in (Case("ann 0 2 1; bob 1 0 1; cid 1 1 0"), Case("a 0; b 0")):
            names = unknown_names(case.names)
            right = {"case": case, "one": case.names[1], "other": case.names[0]}
            self.check_arguments(against, right, {"case": NO_CASES, "one": names, "other": names})


class WinnersTest(ArgumentsCase):

    def test_all_rankings_gone_through(self):
        for case in CASES:
            for ranking in permutations(range(len(case.marks[0]))):
                self.assertEqual(winners(case, ranking), best(case, ranking), (case.text, ranking))

    def test_their_rows_against_all_others_hold(self):
        for case in CASES[::5]:
            book = Book(" ".join("abcdefgh"[:len(case.marks[0])]) + ":")
            for ranking in permutations(range(len(case.marks[0]))):
                told = [all(holds(book, row, ranking) for row in told_by(case, name)) for name in case.names]
                self.assertEqual([name in winners(case, ranking) for name in case.names], told)

    def test_candidates_with_the_same_marks_win_together(self):
        self.assertEqual(winners(Case("a 1 1; b 1 1"), (0, 1)), ("a", "b"))
        self.assertEqual(winners(Case("a 0 1; b 1 0; c 0 1"), (0, 1)), ("a", "c"))
        self.assertEqual(winners(Case("a 0 1; b 1 0; c 0 1"), (1, 0)), ("b",))
        self.assertEqual(winners(Case("; ".join(f"{name} 99" for name in "abcdefgh")), (0,)), tuple("abcdefgh"))

    def test_eight_candidates_and_eight_rules(self):
        marks = [[int(at != rule) for rule in range(8)] for at in range(8)]
        for first in range(8):
            ranking = (first, *[rule for rule in range(8) if rule != first])
            self.assertEqual(winners(Case(text_of(marks)), ranking), ("abcdefgh"[first],))
        self.assertEqual(winners(Case("a 0 0 0 0 0 0 0 99; b 0 0 0 0 0 0 0 98"), (0, 1, 2, 3, 4, 5, 6, 7)), ("b",))

    def test_one_rule(self):
        self.assertEqual(winners(Case("a 99; b 0; c 1; d 0"), (0,)), ("b", "d"))

    def test_arguments(self):
        right = {"case": Case("ann 0 2 1; bob 1 0 1"), "ranking": (1, 2, 0)}
        self.check_arguments(winners, right, {"case": NO_CASES, "ranking": WRONG_RANKINGS})

    def test_the_number_of_rules_is_that_of_the_marks(self):
        for rules in range(1, 9):
            case = Case(text_of([[1] * rules] * 2))
            for many in range(10):
                with self.subTest(rules=rules, many=many):
                    self.assertEqual(raised(winners, case, tuple(range(many))) is None, many == rules)


class ToldByTest(ArgumentsCase):

    def test_the_rows_against_all_others_in_the_order_of_the_names(self):
        for case in CASES:
            for name in case.names:
                rows = tuple(against(case, name, other) for other in case.names if other != name)
                self.assertEqual(told_by(case, name), rows, case.text)

    def test_two_and_eight_candidates(self):
        self.assertEqual(told_by(Case("a 0; b 1"), "a"), ("+",))
        self.assertEqual(told_by(Case("a 0; b 1"), "b"), ("-",))
        case = Case("; ".join(f"{name} {mark}" for mark, name in enumerate("abcdefgh")))
        self.assertEqual(told_by(case, "c"), ("-", "-", "+", "+", "+", "+", "+"))

    def test_candidates_with_the_same_marks(self):
        self.assertEqual(told_by(Case("a 1 1; b 1 1; c 0 2"), "b"), ("..", "-+"))

    def test_arguments(self):
        case = Case("ann 0 2 1; bob 1 0 1; cid 1 1 0")
        right = {"case": case, "one": "bob"}
        self.check_arguments(told_by, right, {"case": NO_CASES, "one": unknown_names(case.names)})


class BarredTest(ArgumentsCase):

    def test_all_rankings_gone_through(self):
        for case in CASES:
            seen = {name for ranking in permutations(range(len(case.marks[0]))) for name in best(case, ranking)}
            self.assertEqual(barred(case), tuple(name for name in case.names if name not in seen), case.text)

    def test_edges(self):
        for text, names in {
                "a 0; b 0": (), "a 0; b 1": ("b",), "a 99; b 0": ("a",), "a 1 1; b 1 1": (), "a 0 1; b 1 0": (),
                "a 0 2; b 1 1; c 2 0": ("b",), "a 0 1; b 0 1; c 1 1": ("c",), "a 0 0; b 0 1; c 1 0; d 0 0": ("b", "c"),
                "; ".join(f"{name} 7" for name in "abcdefgh"): (),
                "; ".join(f"{name} {mark}" for mark, name in enumerate("abcdefgh")): tuple("bcdefgh"),
                "a 0 0 0 0 0 0 0 0; b 0 0 0 0 0 0 0 99": ("b",),
        }.items():
            with self.subTest(text=text):
                self.assertEqual(barred(Case(text)), names)

    def test_a_candidate_between_two_others_never_wins_though_neither_is_better_by_all(self):
        case = Case("a 0 2; b 1 1; c 2 0")
        self.assertEqual(told_by(case, "b"), ("-+", "+-"))
        self.assertEqual(barred(case), ("b",))

    def test_arguments(self):
        for text in ("ann 0 2 1; bob 1 0 1", "a 0; b 1"):
            self.check_arguments(barred, {"case": Case(text)}, {"case": NO_CASES})


if __name__ == "__main__":
    unittest.main()
