"""Checks of the arguments of a function: how they are passed, and which wrong one is told."""

import inspect
import unittest
from itertools import combinations

from rankedrules.books import Book
from rankedrules.cases import Case
from rankedrules.courts import Court
from rankedrules.errors import (
    InvalidCases, InvalidClaim, InvalidIndex, InvalidLot, InvalidName, InvalidNumber, InvalidOffers, InvalidRanking,
    InvalidRow, InvalidRule, NoRanking, NotABook, NotACase, NotACourt, UnknownName,
)
from rankedrules.veils import Veil
from tests.values import HUGE, OTHER_KINDS, Alike, error_of

A_CASE = Case("a 0 1 2; b 2 1 0")
A_VEIL = Veil("a 0 1-2 2; b 2 1 0-3")

# Books of three rules that no ranking fits.
QUARRELLING = (
    "a b c: --.", "a b c: +-. -+.", "a b c: +-. .+- -.+", "a b c:" + " ..." * 19 + " ---", "a b c:" + " .-." * 20,
)


def given(error, values):
    """Wrong values, each with the error that keeps it."""
    return [(value, error, {"given": value}) for value in values]


def but(kind, values=OTHER_KINDS):
    """The values that are of no such class (True and False are no integers)."""
    return [value for value in values if value.__class__ is not kind]


NO_BOOKS = given(NotABook, (*but(Book), "a b c: +-.", A_CASE, [Book("a:")], Alike()))
NO_CASES = given(NotACase, (
    *but(Case), "a 0 1 2; b 2 1 0", (A_CASE,), [A_CASE], A_VEIL, Veil("a 0 1 2; b 2 1 0"), Alike(),
))
NO_VEILS = given(NotACase, (
    *but(Veil), "a 0 1-2 2; b 2 1 0-3", (A_VEIL,), [A_VEIL], A_CASE, Alike(),
))
NO_COURTS = given(NotACourt, (*but(Court), Court, ("a", "b", "c"), [Court(("a", "b", "c"))], Alike()))

# The numbers of rules that a case or a veil has which does not fit three rules.
OTHER_NUMBERS = (1, 2, 4, 8)
WRONG_CASES = NO_CASES + given(NotACase, [Case("a" + " 0" * many + "; b" + " 1" * many) for many in OTHER_NUMBERS])
WRONG_VEILS = NO_VEILS + given(NotACase, [Veil("a" + " 0-1" * many + "; b" + " 1" * many) for many in OTHER_NUMBERS])

# All of these are wrong beside three rules.
WRONG_ROWS = given(InvalidRow, (
    *OTHER_KINDS, A_CASE, "++", "++++", "++ ", " ++", "+x-", "++\n", "+-0", "abc", "+++ +++", ("+", "-", "."),
    ["+", "-", "."], b"+-.", "+" * 8, Alike(),
))
WRONG_RANKINGS = given(InvalidRanking, (
    *OTHER_KINDS, A_CASE, (0, 1), (0, 1, 2, 3), (0, 0, 1), (0, 1, 1), (0, 1, 3), (1, 2, 3), (-1, 0, 1), (0, 1, -1),
    [0, 1, 2], [2, 1, 0], (False, True, 2), (0, True, 2), (0, 1, None), ("0", "1", "2"), "012", (0, 1, "2"),
    ((0, 1, 2),), (0, 1, (2,)), (0, 1, [2]), (0, 1, {}), (0, 1, HUGE), (-HUGE, 0, 1), {0: 0, 1: 1, 2: 2},
    range(3), ({0, 1, 2}, 0, 1), (0, 1, Book("a:")), Alike(), (Alike(), 1, 2),
))
WRONG_RULES = given(InvalidRule, (
    *but(int), A_CASE, 3, 4, 8, -1, -3, HUGE, -HUGE, "0", "cost", (0,), [0], b"\x00", Alike(),
))
WRONG_LOTS = [
    (value, InvalidLot, {"index": None})
    for value in (*but(tuple), A_CASE, [0, 1], "01", 0, b"\x00", {0: 0}, range(2))
] + [
    (value, InvalidLot, {"index": index})
    for value, index in (
        ((3,), 0), ((0, 3), 1), ((0, 1, 2, 3), 3), ((-1,), 0), ((0, -1), 1), ((1, 0), 1), ((0, 0), 1),
        ((0, 2, 1), 2), ((0, 1, 1), 2), ((HUGE,), 0), ((0, -HUGE), 1), ((True,), 0), ((False, 1), 0), ((0, True), 1),
        (("0",), 0), ((0, None, 2), 1), ((0, [1]), 1), (((0,), 1), 0), ((0, 1, {}), 2), ((3, 3), 0), ((0, "1", -1), 1),
        ((Book("a:"),), 0), ((0, Alike()), 1),
    )
]


WRONG_MOST = given(InvalidNumber, (*but(int), A_CASE, 21, 22, 99, -1, -20, HUGE, -HUGE, "0", (0,), [0], Alike()))
WRONG_INDEXES = given(InvalidIndex, (*but(int), A_CASE, 20, 21, -1, -2, HUGE, -HUGE, "0", (0,), [0], Alike()))
WRONG_NAMES = given(InvalidName, (
    *but(str), "", " ", "A", "aB", "a1", "1", "a b", "a ", " a", "a\n", "a:", "abcdefghi", "+", ("a",), ["a"], b"a",
    A_CASE, Alike(),
))


def wrong_tuples(error, right, most, wrong):
    """Tuples that are none of one to so many right elements, each with the error of its index.

    The first wrong element stands at any place, alone and ahead of another one.
    """
    told = [(value, None) for value in (*but(tuple), A_CASE, [right], {0: right}, Alike(), right, ())]
    for at in range(most):
        for value in wrong:
            told.append(((right,) * at + (value,), at))
        told.append(((right,) * at + (wrong[0],) + (right,) * (most - 1 - at), at))
        told.append(((right,) * at + (wrong[-1],) * 2, at))
        told.append(((right,) * at + (wrong[0],) + (right,) * 20, at))
    for beyond in (1, 2, 30):
        told.append(((right,) * (most + beyond), most))
        told.append(((right,) * most + (wrong[0],) * beyond, most))
    told.append(((right,) * (most + 1) + (wrong[0],), most))
    return [(value, error, {"index": index}) for value, index in told]


WRONG_CASE_TUPLES = wrong_tuples(InvalidCases, A_CASE, 4, [value for value, _, _ in WRONG_CASES])
WRONG_OFFERS = wrong_tuples(InvalidOffers, "+-.", 8, [value for value, _, _ in WRONG_ROWS])

ROW_CLAIMS = [("follows", "a", value) for value in (
    *OTHER_KINDS, "x+", "+ -", "+" * 9, ["+"], ("+", "-"), b"+-", Alike()) if value != "+"]
NUMBER_CLAIMS = [
    claim for value in (*but(int), "0", (0,), [0], Alike())
    for claim in (("count", "a", value), ("rows", "a", value), ("above", "a", value, 0), ("above", "a", 0, value))
]
NO_CLAIMS = given(InvalidClaim, (
    *OTHER_KINDS, A_CASE, "fits", ("fits",), ("fits", "a", 0), ["fits", "a"], ("Fits", "a"), ("", "a"), ("fit", "a"),
    (["fits"], "a"), (None, "a"), (("fits", "a"),), ({}, "a"), (Alike(), "a"), ("fits ", "a"), ("a", "fits"),
    ("follows", "a"), ("follows", "a", "+-.", 0), ("follows", "+-."), ("above", "a", 0), ("above", "a", 0, 1, 2),
    ("above", "a"), ("count", "a"), ("count", "a", 1, 1), ("rows", "a"), ("rows", "a", 1, None), ("quarrels", "a"),
    ("wins", "a", "b"), ("open", "a", "+-."), ("alike", "a", "b"), ("FOLLOWS", "a", "+-."), ("count", 1), Alike(),
    *ROW_CLAIMS, *NUMBER_CLAIMS,
))


def wrong_numbers(many):
    """Wrong values where there are so many rankings."""
    return given(InvalidNumber, (*but(int), A_CASE, many, many + 1, -1, -many, HUGE, -HUGE, "0", (0,), [0], Alike()))


def unknown_names(names):
    """Values that are none of these names."""
    bent = ("", " ", names[0] + " ", names[0].upper(), names[0] + names[1], "; ".join(names), "zzzzzzzz")
    nested = (names, list(names), (names[0],), [names[0]])
    return given(UnknownName, (*OTHER_KINDS, A_CASE, *bent, *nested, b"a", Alike()))


class ArgumentsCase(unittest.TestCase):

    def check_arguments(self, function, right, wrong):
        """Take a function with right values, by the names of its parameters, and with wrong ones.

        `wrong` holds for each parameter pairs of wrong values with the error of each.
        """
        names = list(right)
        self.assertEqual(list(inspect.signature(function).parameters), names)
        self.check_passing(function, right)
        for name in names:
            for value, error, attributes in wrong[name]:
                with self.subTest(function=function.__name__, wrong=name, kind=value.__class__):
                    self.check_error(function, {**right, name: value}, error, attributes)
        for first, later in combinations(names, 2):
            for value, error, attributes in wrong[first]:
                for other, _, _ in wrong[later][::5]:
                    with self.subTest(function=function.__name__, wrong=(first, later), kind=value.__class__):
                        self.check_error(function, {**right, first: value, later: other}, error, attributes)

    def check_no_ranking(self, function, right, wrong):
        """For a book that no ranking fits: NoRanking, but behind the errors of all arguments."""
        for text in QUARRELLING:
            values = {**right, "book": Book(text)}
            self.assertEqual(error_of(function, **values), (NoRanking, {}))
            for name in list(right)[1:]:
                for value, error, attributes in wrong[name]:
                    with self.subTest(function=function.__name__, wrong=name, kind=value.__class__):
                        self.check_error(function, {**values, name: value}, error, attributes)

    def check_passing(self, function, right):
        """By position, by name and by both: the same result, each time."""
        names, values = list(right), list(right.values())
        expected = function(*values)
        for split in range(len(names) + 1):
            named = {name: right[name] for name in reversed(names[split:])}
            with self.subTest(function=function.__name__, by_position=split):
                self.assertEqual(function(*values[:split], **named), expected)

    def check_error(self, function, values, error, attributes):
        for told in (error_of(function, *values.values()), error_of(function, **values)):
            self.assertIs(told[0], error)
            self.assertEqual(list(told[1]), list(attributes))
            for name, value in attributes.items():
                if value is None or name == "given":
                    self.assertIs(told[1][name], value)
                else:
                    self.assertEqual(told[1][name], value)
