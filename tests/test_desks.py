"""Desks: books under names, claims about them, undo, and attempts."""

import inspect
import random
import unittest
from itertools import product

from rankedrules import errors
from rankedrules.books import Book
from rankedrules.desks import Desk
from rankedrules.errors import (
    Broken, InUse, InvalidClaim, InvalidIndex, InvalidName, NotABook, NothingToUndo, UnknownName,
)
from rankedrules.rankings import how_many
from tests.arguments import A_CASE, NO_BOOKS, NO_CLAIMS, WRONG_INDEXES, WRONG_NAMES, ArgumentsCase, unknown_names
from tests.brute import all_rows, book_of, drawn_books, fitting, holds_for, small_books, told_books
from tests.values import HUGE, OTHER_KINDS, Alike, error_of, raised

SMALL, WIDE, BAD = Book("a b c: +-. .+-"), Book("a b c: ++-"), Book("a b c: +-. -+.")


def busy_desk():
    """A desk with changes of all kinds, some of them taken back."""
    desk = Desk()
    desk.put("b", WIDE)
    desk.put("a", SMALL)
    desk.claim(("above", "a", 0, 2))
    desk.claim(("count", "b", 4))
    desk.claim(("fits", "a"))
    desk.claim(("rows", "a", 2))
    desk.lift(1)
    desk.put("c", BAD)
    desk.undo()
    desk.put("dd", Book("x: +"))
    desk.put("c", BAD)
    desk.drop("dd")
    desk.put("b", BAD)
    return desk


def state_of(desk):
    """All that a desk shows."""
    return [(name, desk[name].text) for name in desk.names], desk.claims, desk.changes, len(desk)


def taken_back(desk):
    """How the desk is, and how it is after each `undo` that can be made."""
    seen = [state_of(desk)]
    while desk.changes:
        desk.undo()
        seen.append(state_of(desk))
    return seen


def judged(book, row):
    """What is told of a row by all rankings that fit."""
    told = {holds_for(row, ranking) for ranking in fitting(book)}
    return "sure" if told <= {True} else "open" if True in told else "never"


def what_is_so(claim, book):
    """Whether the claim holds, by going through all rankings, and what is told if it does not."""
    many = len(book.names)
    if claim[0] == "fits":
        return fitting(book) != [], False
    if claim[0] == "count":
        return len(fitting(book)) == claim[2], len(fitting(book))
    if claim[0] == "rows":
        return len(book.rows) == claim[2], len(book.rows)
    if claim[0] == "follows":
        row = claim[2]
    else:
        signs = {claim[2]: "+", claim[3]: "-"}
        if len(signs) < 2 or not set(signs) <= set(range(many)):
            return False, None
        row = "".join(signs.get(rule, ".") for rule in range(many))
    if len(row) != many:
        return False, None
    told = judged(book, row)
    return told == "sure", told


def all_claims(name, many):
    """Claims of all kinds about a book with so many rules, and some that do not fit it."""
    claims = [("fits", name)]
    claims += [("follows", name, row) for number in (many - 1, many, many + 1) for row in all_rows(number)[1::3] if row]
    claims += [("above", name, one, other) for one, other in product(range(-1, many + 1), repeat=2)]
    claims += [("count", name, number) for number in (0, 1, 2, 3, 6, -1)]
    return claims + [("rows", name, number) for number in (0, 1, 2, 3, -1)]


class ObjectTest(unittest.TestCase):

    def test_a_new_desk(self):
        desk = Desk()
        self.assertEqual((desk.names, desk.claims, desk.changes, len(desk)), ((), (), 0, 0))
        self.assertEqual(list(inspect.signature(Desk).parameters), [])

    def test_equal_to_itself_alone(self):
        desk, other = Desk(), Desk()
        self.assertIs(desk == desk, True)
        self.assertIs(desk != desk, False)
        self.assertIs(desk == other, False)
        self.assertIs(desk != other, True)
        for value in (*OTHER_KINDS, [desk], (desk,), Alike()):
            with self.subTest(kind=value.__class__):
                self.assertIs(desk == value, False)
                self.assertIs(desk != value, True)

    def test_true_as_a_condition_also_without_books(self):
        self.assertIs(bool(Desk()), True)
        self.assertIs(bool(busy_desk()), True)

    def test_each_listed_method_stands_in_the_class_itself(self):
        for name in ("names", "claims", "changes"):
            self.assertIsInstance(vars(Desk)[name], property)
        listed = ("put", "drop", "claim", "lift", "undo", "attempt", "tried", "__getitem__", "__contains__", "__len__")
        for name in listed:
            self.assertTrue(inspect.isfunction(vars(Desk)[name]))

    def test_the_parameters_have_the_listed_names(self):
        for name, parameters in {
                "put": ["name", "book"], "drop": ["name"], "claim": ["claim"], "lift": ["index"], "undo": [],
                "attempt": [], "tried": ["act"]}.items():
            self.assertEqual(list(inspect.signature(getattr(Desk(), name)).parameters), parameters)

    def test_properties_cannot_be_set(self):
        desk = busy_desk()
        for name in ("names", "claims", "changes"):
            with self.assertRaises(AttributeError):
                setattr(desk, name, ())

    def test_what_was_shown_does_not_change(self):
        desk = busy_desk()
        names, claims = desk.names, desk.claims
        desk.put("zz", WIDE)
        desk.lift(0)
        self.assertEqual(names, ("a", "b", "c"))
        self.assertEqual(claims, (("above", "a", 0, 2), ("fits", "a"), ("rows", "a", 2)))

    def test_two_desks_have_nothing_to_do_with_each_other(self):
        one, other = Desk(), Desk()
        one.put("a", SMALL)
        self.assertEqual(state_of(other), ([], (), 0, 0))


class PutTest(unittest.TestCase):

    def test_books_stand_under_their_names(self):
        desk = Desk()
        for at, name in enumerate(("m", "abcdefgh", "z", "a", "ab")):
            book = Book("x:" + " +" * at)
            self.assertIsNone(desk.put(name, book))
            self.assertEqual((desk[name], len(desk), desk.changes), (book, at + 1, at + 1))
        self.assertEqual(desk.names, ("a", "ab", "abcdefgh", "m", "z"))
        self.assertIsNone(desk.put(book=SMALL, name="b"))
        self.assertIs(desk["b"], SMALL)

    def test_a_book_in_the_place_of_another_one(self):
        desk = Desk()
        for book in (SMALL, WIDE, BAD, BAD):
            desk.put("a", book)
            self.assertIs(desk["a"], book)
        self.assertEqual((desk.names, desk.changes), (("a",), 4))

    def test_names_in_the_desk(self):
        desk = busy_desk()
        for name in ("a", "b", "c"):
            self.assertIs(name in desk, True)
        for value in (*OTHER_KINDS, "d", "dd", "", "A", "a ", ("a",), ["a"], b"a", HUGE, Alike(), A_CASE, desk, SMALL):
            with self.subTest(kind=value.__class__):
                self.assertIs(value in desk, False)
                self.assertIs(value in Desk(), False)

    def test_books_by_name(self):
        desk = busy_desk()
        self.assertEqual([desk[name] for name in desk.names], [SMALL, BAD, BAD])
        for value, error, told in WRONG_NAMES:
            for asked in (desk, Desk()):
                self.assertEqual(error_of(lambda name, asked=asked: asked[name], value)[0], error)
                self.assertIs(raised(lambda name, asked=asked: asked[name], value).given, told["given"])
        for name in ("d", "dd", "zzzzzzzz", "aa"):
            self.assertEqual(error_of(lambda given: desk[given], name), (UnknownName, {"given": name}))
        self.assertEqual(error_of(lambda given: Desk()[given], "a"), (UnknownName, {"given": "a"}))

    def test_first_the_claim_with_this_name_that_would_not_hold(self):
        desk = Desk()
        desk.put("a", SMALL)
        desk.put("b", SMALL)
        for claim in (("count", "b", 1), ("fits", "a"), ("above", "b", 0, 1), ("rows", "a", 2), ("count", "a", 1)):
            desk.claim(claim)
        for name, book, index, told in (
                ("a", WIDE, 3, 1), ("b", WIDE, 0, 4), ("a", BAD, 1, False), ("b", BAD, 0, 0),
                ("a", Book("a b c: +-. ..."), 4, 3), ("a", Book("a b c: +-. -++"), None, None), ("b", Book("a b c: -+. .-+"), 2, "never"),
                ("b", Book("a b: ++"), 0, 2), ("b", Book("x y: -+"), 2, "never"), ("b", Book("a: +"), 2, None),
                ("a", Book("a: + ."), None, None)):
            with self.subTest(name=name, book=book.text):
                held = state_of(desk)
                if index is None:
                    self.assertIsNone(desk.put(name, book))
                    desk.undo()
                else:
                    self.assertEqual(error_of(desk.put, name, book), (Broken, {"index": index, "told": told}))
                self.assertEqual(state_of(desk), held)

    def test_claims_with_other_names_are_not_asked(self):
        desk = Desk()
        desk.put("a", SMALL)
        desk.claim(("count", "a", 1))
        self.assertIsNone(desk.put("b", BAD))
        self.assertIsNone(desk.put("b", WIDE))

    def test_all_claims_and_books_gone_through(self):
        books = small_books()[::9] + drawn_books(81, 8, (3,)) + told_books(82, 5, (3,))
        for book in books:
            desk = Desk()
            desk.put("a", book)
            for claim in all_claims("a", len(book.names)):
                if what_is_so(claim, book)[0]:
                    desk.claim(claim)
            for other in books:
                wrong = [(at, what_is_so(claim, other)[1]) for at, claim in enumerate(desk.claims)
                         if not what_is_so(claim, other)[0]]
                held = state_of(desk)
                with self.subTest(book=book.text, other=other.text):
                    if wrong:
                        told = {"index": wrong[0][0], "told": wrong[0][1]}
                        self.assertEqual(error_of(desk.put, "a", other), (Broken, told))
                    else:
                        self.assertIsNone(desk.put("a", other))
                        desk.undo()
                    self.assertEqual(state_of(desk), held)


class DropTest(unittest.TestCase):

    def test_a_book_goes(self):
        desk = Desk()
        desk.put("a", SMALL)
        desk.put("b", WIDE)
        self.assertIsNone(desk.drop("a"))
        self.assertEqual((desk.names, desk.changes, "a" in desk, len(desk)), (("b",), 3, False, 1))
        self.assertIsNone(desk.drop(name="b"))
        self.assertEqual(state_of(desk), ([], (), 4, 0))
        self.assertEqual(error_of(desk.drop, "b"), (UnknownName, {"given": "b"}))
        desk.put("b", SMALL)
        self.assertIs(desk["b"], SMALL)

    def test_a_book_that_a_claim_names(self):
        desk = Desk()
        desk.put("a", SMALL)
        desk.put("b", SMALL)
        for claim in (("fits", "b"), ("fits", "a"), ("rows", "b", 2), ("fits", "a")):
            desk.claim(claim)
        self.assertEqual(error_of(desk.drop, "b"), (InUse, {"index": 0}))
        self.assertEqual(error_of(desk.drop, "a"), (InUse, {"index": 1}))
        desk.lift(0)
        self.assertEqual(error_of(desk.drop, "b"), (InUse, {"index": 1}))
        self.assertEqual(error_of(desk.drop, "a"), (InUse, {"index": 0}))
        desk.lift(1)
        self.assertIsNone(desk.drop("b"))
        self.assertEqual((desk.names, desk.claims), (("a",), (("fits", "a"), ("fits", "a"))))

    def test_a_name_of_no_book(self):
        desk = busy_desk()
        for name in ("dd", "d", "zzzzzzzz"):
            self.assertEqual(error_of(desk.drop, name), (UnknownName, {"given": name}))


class ClaimTest(unittest.TestCase):

    def test_all_claims_gone_through(self):
        for book in small_books()[::5] + drawn_books(83, 10, (3,)) + told_books(84, 4, (3, 4)):
            desk = Desk()
            desk.put("a", book)
            for claim in all_claims("a", len(book.names)):
                holds, told = what_is_so(claim, book)
                claims = desk.claims
                with self.subTest(book=book.text, claim=claim):
                    if holds:
                        self.assertIsNone(desk.claim(claim))
                        self.assertEqual(desk.claims, (*claims, claim))
                    else:
                        self.assertEqual(error_of(desk.claim, claim), (Broken, {"index": len(claims), "told": told}))
                        self.assertEqual(desk.claims, claims)
            self.assertEqual(desk.changes, len(desk.claims) + 1)

    def test_edges(self):
        eight = "a b c d e f g h:"
        for text, claim, told in (
                ("a:", ("fits", "a"), True), ("a: -", ("fits", "a"), False), ("a:", ("count", "a", 1), True),
                ("a:", ("follows", "a", "."), True), ("a:", ("follows", "a", "-"), "never"),
                ("a:", ("follows", "a", "++"), None), ("a:", ("above", "a", 0, 0), None),
                ("a:", ("above", "a", 0, 1), None), ("a b:", ("above", "a", 0, 1), "open"),
                ("a b: +-", ("above", "a", 0, 1), True), ("a b: +-", ("above", "a", 1, 0), "never"),
                ("a b: +-", ("above", "a", 1, 1), None), ("a b: +-", ("above", "a", -1, 0), None),
                ("a b: +-", ("above", "a", 0, 2), None), ("a b: +-", ("above", "a", HUGE, 0), None),
                ("a b: +-", ("above", "a", 0, -HUGE), None), ("a b: +-", ("count", "a", -HUGE), 1),
                ("a b: +- -+", ("above", "a", 1, 0), True), ("a b: +- -+", ("follows", "a", "--"), True),
                ("a b: +- -+", ("above", "a", 1, 1), None), ("a b: +- -+", ("follows", "a", "---"), None),
                ("a b: +- -+", ("count", "a", 0), True), ("a b: +- -+", ("count", "a", 1), 0),
                ("a b: +- -+", ("rows", "a", 2), True), ("a b: +- -+", ("rows", "a", 0), 2),
                (eight, ("count", "a", 40320), True), (eight, ("count", "a", HUGE), 40320),
                (eight, ("follows", "a", "+-------"), "open"), (eight, ("follows", "a", "++++++++"), True),
                (eight + " +-------" * 20, ("above", "a", 0, 7), True), (eight + " ........" * 20, ("rows", "a", 20), True),
                (eight + " ........" * 20, ("rows", "a", 21), 20), (eight, ("rows", "a", 0), True)):
            desk = Desk()
            desk.put("a", Book(text))
            with self.subTest(text=text, word=claim[0]):
                if told is True:
                    self.assertIsNone(desk.claim(claim))
                    self.assertEqual((desk.claims, desk.changes), ((claim,), 2))
                else:
                    self.assertEqual(error_of(desk.claim, claim), (Broken, {"index": 0, "told": told}))
                    self.assertEqual((desk.claims, desk.changes), ((), 1))

    def test_the_same_claim_more_than_once(self):
        desk = Desk()
        desk.put("a", SMALL)
        for many in range(1, 5):
            self.assertIsNone(desk.claim(claim=("fits", "a")))
            self.assertEqual((desk.claims, desk.changes), ((("fits", "a"),) * many, many + 1))
        desk.lift(2)
        self.assertEqual(desk.claims, (("fits", "a"),) * 3)

    def test_a_value_that_is_no_claim(self):
        desk = busy_desk()
        for value, error, told in NO_CLAIMS:
            for asked in (desk, Desk()):
                with self.subTest(kind=value.__class__):
                    found = raised(asked.claim, value)
                    self.assertIs(found.__class__, error)
                    self.assertIs(found.given, told["given"])

    def test_a_name_that_is_none_of_the_desk(self):
        desk = busy_desk()
        for value, error, told in unknown_names(("a", "b", "c")):
            for claim in (("fits", value), ("follows", value, "+-."), ("above", value, 0, 0), ("count", value, 1),
                          ("rows", value, 0)):
                with self.subTest(kind=value.__class__, word=claim[0]):
                    found = raised(desk.claim, claim)
                    self.assertIs(found.__class__, error)
                    self.assertIs(found.given, told["given"])

    def test_no_claim_comes_ahead_of_an_unknown_name(self):
        for claim in (("follows", "z", "x"), ("above", None, 0, True), ("count", [], "1"), ("rows", "z")):
            self.assertEqual(error_of(Desk().claim, claim), (InvalidClaim, {"given": claim}))

    def test_the_index_would_be_behind_the_others(self):
        desk = busy_desk()
        self.assertEqual(error_of(desk.claim, ("fits", "b")), (Broken, {"index": 3, "told": False}))
        desk.claim(("count", "b", 0))
        self.assertEqual(error_of(desk.claim, ("fits", "b")), (Broken, {"index": 4, "told": False}))
        desk.lift(0)
        self.assertEqual(error_of(desk.claim, ("follows", "a", "++")), (Broken, {"index": 3, "told": None}))


class LiftTest(unittest.TestCase):

    def test_each_claim_can_go(self):
        claims = (("fits", "a"), ("rows", "a", 2), ("count", "a", 1), ("fits", "a"))
        for index in range(4):
            desk = Desk()
            desk.put("a", SMALL)
            for claim in claims:
                desk.claim(claim)
            self.assertIsNone(desk.lift(index))
            self.assertEqual((desk.claims, desk.changes), (claims[:index] + claims[index + 1:], 6))
        self.assertIsNone(desk.lift(index=0))
        self.assertEqual(desk.claims, (("rows", "a", 2), ("count", "a", 1)))

    def test_an_index_of_no_claim(self):
        desk = busy_desk()
        for index in (3, 4, -1, -3, HUGE, True, False, "0", None):
            self.assertEqual(error_of(desk.lift, index), (InvalidIndex, {"given": index}))
        self.assertEqual(error_of(Desk().lift, 0), (InvalidIndex, {"given": 0}))

    def test_what_a_claim_forbade_is_let_again(self):
        desk = Desk()
        desk.put("a", SMALL)
        desk.claim(("count", "a", 1))
        self.assertEqual(error_of(desk.put, "a", WIDE), (Broken, {"index": 0, "told": 4}))
        desk.lift(0)
        self.assertIsNone(desk.put("a", WIDE))


class UndoTest(unittest.TestCase):

    def test_the_changes_are_taken_back_one_by_one(self):
        desk = Desk()
        seen = [state_of(desk)]
        for act in (
                lambda: desk.put("a", SMALL), lambda: desk.claim(("fits", "a")), lambda: desk.put("a", WIDE),
                lambda: desk.put("b", BAD), lambda: desk.claim(("rows", "b", 2)), lambda: desk.lift(0),
                lambda: desk.drop("a"), lambda: desk.put("a", BAD)):
            act()
            seen.append(state_of(desk))
        self.assertEqual([state[2] for state in seen], list(range(9)))
        self.assertEqual(taken_back(desk), seen[::-1])

    def test_nothing_to_take_back(self):
        desk = Desk()
        self.assertEqual(error_of(desk.undo), (NothingToUndo, {}))
        desk.put("a", SMALL)
        self.assertIsNone(desk.undo())
        self.assertEqual(error_of(desk.undo), (NothingToUndo, {}))
        self.assertEqual(state_of(desk), ([], (), 0, 0))

    def test_what_was_taken_back_is_gone(self):
        desk = Desk()
        desk.put("a", SMALL)
        desk.put("b", SMALL)
        desk.undo()
        desk.put("c", SMALL)
        self.assertEqual([state[0] for state in taken_back(desk)], [
            [("a", SMALL.text), ("c", SMALL.text)], [("a", SMALL.text)], []])


# Wrong calls of the methods of the busy desk, with what they raise.
WRONG_CALLS = (
    [("put", (value, SMALL), error, told) for value, error, told in WRONG_NAMES]
    + [("put", (value, None), error, told) for value, error, told in WRONG_NAMES]
    + [("put", (name, value), error, told) for value, error, told in NO_BOOKS for name in ("a", "new")]
    + [("drop", (value,), error, told) for value, error, told in WRONG_NAMES]
    + [("claim", (value,), error, told) for value, error, told in NO_CLAIMS]
    + [("lift", (value,), error, told) for value, error, told in WRONG_INDEXES]
    + [("drop", ("dd",), UnknownName, {"given": "dd"}), ("drop", ("a",), InUse, {"index": 0})]
    + [("claim", (("fits", "dd"),), UnknownName, {"given": "dd"}), ("put", ("a", BAD), Broken, {"index": 1, "told": False})]
    + [("put", ("a", WIDE), Broken, {"index": 0, "told": "open"})]
    + [("put", ("a", Book("a b: +-")), Broken, {"index": 0, "told": None})]
    + [("put", ("a", Book("a b c: -.+")), Broken, {"index": 0, "told": "never"})]
    + [("put", ("a", Book("a b c: +--")), Broken, {"index": 2, "told": 1})]
    + [("claim", (("fits", "b"),), Broken, {"index": 3, "told": False})]
    + [("claim", (("above", "a", 1, 0),), Broken, {"index": 3, "told": "never"})]
)


class ErrorsTest(ArgumentsCase):

    def test_the_wrong_book_that_breaks_the_second_claim(self):
        # A book that no ranking fits lets "above" hold.
        self.assertEqual(error_of(busy_desk().put, "a", BAD), (Broken, {"index": 1, "told": False}))

    def test_a_desk_is_as_it_was_behind_each_error(self):
        desk, expected = busy_desk(), taken_back(busy_desk())
        for name, values, error, attributes in WRONG_CALLS:
            method = getattr(desk, name)
            named = dict(zip(inspect.signature(method).parameters, values))
            with self.subTest(method=name, kinds=[value.__class__ for value in values]):
                self.check_error(method, named, error, attributes)
                self.assertEqual(state_of(desk), expected[0])
        self.assertEqual(taken_back(desk), expected)

    def test_each_error_alone(self):
        expected = taken_back(busy_desk())
        for name, values, error, _ in WRONG_CALLS[::5] + WRONG_CALLS[-12:]:
            desk = busy_desk()
            self.assertIs(raised(getattr(desk, name), *values).__class__, error)
            self.assertEqual(taken_back(desk), expected)

    def test_a_desk_without_books(self):
        desk = Desk()
        for name, values, error, told in (
                ("drop", ("a",), UnknownName, {"given": "a"}), ("lift", (0,), InvalidIndex, {"given": 0}),
                ("claim", (("fits", "a"),), UnknownName, {"given": "a"}), ("undo", (), NothingToUndo, {}),
                ("drop", ("",), InvalidName, {"given": ""}), ("put", ("a", "a:"), NotABook, {"given": "a:"})):
            self.assertEqual(error_of(getattr(desk, name), *values), (error, told))
            self.assertEqual(state_of(desk), ([], (), 0, 0))


class Stop(BaseException):
    """An error that is none of Python's own, and no Exception."""


ERRORS = (ValueError, Stop, KeyboardInterrupt, SystemExit, GeneratorExit, StopIteration, errors.NoRanking)


def change_much(desk):
    """Changes of all kinds, also of what was there before."""
    desk.undo()
    desk.undo()
    desk.lift(0)
    desk.claim(("count", "a", 1))
    desk.put("a", Book("a b c: +-. .+-"))
    desk.put("q", WIDE)
    desk.drop("q")


class AttemptTest(unittest.TestCase):

    def test_what_enters_is_the_desk(self):
        desk = Desk()
        with desk.attempt() as entered:
            self.assertIs(entered, desk)
        self.assertEqual(desk.changes, 0)
        self.assertIsNot(desk.attempt(), desk.attempt())

    def test_all_changes_of_an_attempt_that_ends_well_stay(self):
        desk, other = busy_desk(), busy_desk()
        with desk.attempt() as entered:
            change_much(entered)
        change_much(other)
        self.assertEqual(taken_back(desk), taken_back(other))

    def test_an_error_of_any_class_takes_all_back(self):
        for error in ERRORS:
            desk, expected, made = busy_desk(), taken_back(busy_desk()), error()
            with self.subTest(error=error.__name__):
                try:
                    with desk.attempt():
                        change_much(desk)
                        raise made
                except BaseException as caught:
                    self.assertIs(caught, made)
                else:
                    self.fail("the error is not passed on")
                self.assertEqual(taken_back(desk), expected)

    def test_an_error_of_the_desk_itself(self):
        desk, expected = busy_desk(), taken_back(busy_desk())
        with self.assertRaises(Broken):
            with desk.attempt():
                desk.put("q", WIDE)
                desk.put("a", WIDE)
        self.assertEqual(taken_back(desk), expected)

    def test_an_error_that_is_caught_within_changes_nothing(self):
        desk = Desk()
        with desk.attempt():
            desk.put("a", SMALL)
            self.assertEqual(error_of(desk.drop, "b"), (UnknownName, {"given": "b"}))
            desk.put("b", SMALL)
        self.assertEqual((desk.names, desk.changes), (("a", "b"), 2))

    def test_attempts_begin_where_their_rows_begin(self):
        desk = Desk()
        attempt = desk.attempt()
        desk.put("a", SMALL)
        with self.assertRaises(Stop):
            with attempt:
                desk.put("b", SMALL)
                raise Stop()
        self.assertEqual((desk.names, desk.changes), (("a",), 1))

    def test_attempts_within_attempts(self):
        for inner, outer in product((False, True), repeat=2):
            desk = Desk()
            desk.put("a", SMALL)
            expected = [desk.names]
            with self.subTest(inner=inner, outer=outer):
                try:
                    with desk.attempt():
                        desk.put("b", SMALL)
                        try:
                            with desk.attempt():
                                desk.undo()
                                desk.undo()
                                desk.put("c", WIDE)
                                if inner:
                                    raise Stop()
                        except Stop:
                            self.assertEqual(desk.names, ("a", "b"))
                        else:
                            self.assertEqual(desk.names, ("c",))
                        desk.put("d", SMALL)
                        if outer:
                            raise KeyboardInterrupt()
                except KeyboardInterrupt:
                    expected = [("a",), ()]
                else:
                    expected = [("a", "b", "d"), ("a", "b"), ("a",), ()] if inner else [("c", "d"), ("c",), ()]
                self.assertEqual([tuple(name for name, _ in state[0]) for state in taken_back(desk)], expected)

    def test_what_the_function_returns(self):
        desk = busy_desk()
        for value in OTHER_KINDS:
            self.assertIs(desk.tried(lambda given: value), value)
        self.assertIs(desk.tried(act=lambda given: given), desk)
        self.assertEqual(taken_back(desk), taken_back(busy_desk()))

    def test_tried_with_changes(self):
        desk = Desk()
        self.assertIsNone(desk.tried(lambda given: given.put("a", SMALL)))
        self.assertEqual((desk.names, desk.changes), (("a",), 1))
        for error in ERRORS:
            made = error()

            def act(given):
                given.undo()
                given.put("b", WIDE)
                raise made
            with self.assertRaises(error) as caught:
                desk.tried(act)
            self.assertIs(caught.exception, made)
            self.assertEqual((desk.names, desk.changes), (("a",), 1))


class DrawnTest(unittest.TestCase):

    def drawn_change(self, draw, desk, books):
        """One drawn change of any kind, which may be refused."""
        name, book = draw.choice(("a", "b", "c")), draw.choice(books)
        kind = draw.choice(("put", "put", "claim", "claim", "claim", "drop", "lift", "undo"))
        if kind == "put":
            raised(desk.put, name, book)
        elif kind == "claim":
            raised(desk.claim, draw.choice(all_claims(name, draw.choice((2, 3)))))
        elif kind == "drop":
            raised(desk.drop, name)
        elif kind == "lift":
            raised(desk.lift, draw.randint(0, 4))
        else:
            raised(desk.undo)

    def test_after_each_change_all_claims_hold(self):
        draw = random.Random(85)
        books = drawn_books(86, 6, (2, 3)) + told_books(87, 6, (2, 3)) + [book_of(2, ()), book_of(3, ())]
        for _ in range(25):
            desk = Desk()
            for _ in range(60):
                before = state_of(desk)
                self.drawn_change(draw, desk, books)
                for claim in desk.claims:
                    self.assertTrue(what_is_so(claim, desk[claim[1]])[0], claim)
                self.assertLessEqual(abs(desk.changes - before[2]), 1)
                self.assertEqual(state_of(desk) == before, desk.changes == before[2])

    def test_drawn_attempts(self):
        draw = random.Random(88)
        books = drawn_books(89, 6, (2, 3))
        desk = Desk()
        for _ in range(60):
            held = state_of(desk)
            fails = draw.random() < 0.5
            try:
                with desk.attempt():
                    for _ in range(8):
                        self.drawn_change(draw, desk, books)
                    ended = state_of(desk)
                    if fails:
                        raise Stop()
            except Stop:
                pass
            self.assertEqual(state_of(desk), held if fails else ended)

    def test_counts_are_those_of_the_books(self):
        desk = Desk()
        desk.put("a", WIDE)
        desk.claim(("count", "a", how_many(WIDE)))
        self.assertEqual(desk.claims, (("count", "a", 4),))


if __name__ == "__main__":
    unittest.main()
