"""Checks of the arguments of a function: how they are passed, and which wrong one is told."""

import inspect
import unittest
from itertools import combinations

from rankedrules.books import Book
from rankedrules.cases import Case
from rankedrules.errors import (
    InvalidLot, InvalidNumber, InvalidRanking, InvalidRow, InvalidRule, NotABook, NotACase, UnknownName,
)
from tests.values import HUGE, OTHER_KINDS, Alike, error_of

A_CASE = Case("a 0 1 2; b 2 1 0")


def given(error, values):
    """Wrong values, each with the error that keeps it."""
    return [(value, error, {"given": value}) for value in values]


def but(kind, values=OTHER_KINDS):
    """The values that are of no such class (True and False are no integers)."""
    return [value for value in values if value.__class__ is not kind]


NO_BOOKS = given(NotABook, (*but(Book), "a b c: +-.", A_CASE, [Book("a:")], Alike()))
NO_CASES = given(NotACase, (*OTHER_KINDS, "a 0 1 2; b 2 1 0", (A_CASE,), [A_CASE], Alike()))

# All of these are wrong beside three rules.
WRONG_ROWS = given(InvalidRow, (
    *OTHER_KINDS, A_CASE, "++", "++++", "++ ", " ++", "+x-", "++\n", "+-0", "abc", "+++ +++", ("+", "-", "."),
    ["+", "-", "."], b"+-.", "+" * 8, Alike(),
))
WRONG_RANKINGS = given(InvalidRanking, (
    *OTHER_KINDS, A_CASE, (0, 1), (0, 1, 2, 3), (0, 0, 1), (0, 1, 1), (0, 1, 3), (1, 2, 3), (-1, 0, 1), (0, 1, -1),
    [0, 1, 2], [2, 1, 0], (False, True, 2), (0, True, 2), (0, 1, None), ("0", "1", "2"), "012", (0, 1, "2"),
    ((0, 1, 2),), (0, 1, (2,)), (0, 1, [2]), (0, 1, {}), (0, 1, HUGE), (-HUGE, 0, 1), {0: 0, 1: 1, 2: 2},
    range(3), ({0, 1, 2}, 0, 1), (0, 1, Book("a:")), Alike(), (Alike(), 1, 2),
))
WRONG_RULES = given(InvalidRule, (
    *but(int), A_CASE, 3, 4, 8, -1, -3, HUGE, -HUGE, "0", "cost", (0,), [0], b"\x00", Alike(),
))
WRONG_LOTS = [
    (value, InvalidLot, {"index": None})
    for value in (*but(tuple), A_CASE, [0, 1], "01", 0, b"\x00", {0: 0}, range(2))
] + [
    (value, InvalidLot, {"index": index})
    for value, index in (
        ((3,), 0), ((0, 3), 1), ((0, 1, 2, 3), 3), ((-1,), 0), ((0, -1), 1), ((1, 0), 1), ((0, 0), 1),
        ((0, 2, 1), 2), ((0, 1, 1), 2), ((HUGE,), 0), ((0, -HUGE), 1), ((True,), 0), ((False, 1), 0), ((0, True), 1),
        (("0",), 0), ((0, None, 2), 1), ((0, [1]), 1), (((0,), 1), 0), ((0, 1, {}), 2), ((3, 3), 0), ((0, "1", -1), 1),
        ((Book("a:"),), 0), ((0, Alike()), 1),
    )
]


def wrong_numbers(many):
    """Wrong values where there are so many rankings."""
    return given(InvalidNumber, (*but(int), A_CASE, many, many + 1, -1, -many, HUGE, -HUGE, "0", (0,), [0], Alike()))


def unknown_names(names):
    """Values that are none of these names."""
    bent = ("", " ", names[0] + " ", names[0].upper(), names[0] + names[1], "; ".join(names), "zzzzzzzz")
    nested = (names, list(names), (names[0],), [names[0]])
    return given(UnknownName, (*OTHER_KINDS, A_CASE, *bent, *nested, b"a", Alike()))


class ArgumentsCase(unittest.TestCase):

    def check_arguments(self, function, right, wrong):
        """Take a function with right values, by the names of its parameters, and with wrong ones.

        `wrong` holds for each parameter pairs of wrong values with the error of each.
        """
        names = list(right)
        self.assertEqual(list(inspect.signature(function).parameters), names)
        self.check_passing(function, right)
        for name in names:
            for value, error, attributes in wrong[name]:
                with self.subTest(function=function.__name__, wrong=name, kind=value.__class__):
                    self.check_error(function, {**right, name: value}, error, attributes)
        for first, later in combinations(names, 2):
            for value, error, attributes in wrong[first]:
                for other, _, _ in wrong[later][::5]:
                    with self.subTest(function=function.__name__, wrong=(first, later), kind=value.__class__):
                        self.check_error(function, {**right, first: value, later: other}, error, attributes)

    def check_passing(self, function, right):
        """By position, by name and by both: the same result, each time."""
        names, values = list(right), list(right.values())
        expected = function(*values)
        for split in range(len(names) + 1):
            named = {name: right[name] for name in reversed(names[split:])}
            with self.subTest(function=function.__name__, by_position=split):
                self.assertEqual(function(*values[:split], **named), expected)

    def check_error(self, function, values, error, attributes):
        for told in (error_of(function, *values.values()), error_of(function, **values)):
            self.assertIs(told[0], error)
            self.assertEqual(list(told[1]), list(attributes))
            for name, value in attributes.items():
                if value is None or name == "given":
                    self.assertIs(told[1][name], value)
                else:
                    self.assertEqual(told[1][name], value)
