"""Courts: what they are told, what they forget, undo, and attempts."""

import inspect
import random
import unittest

from rankedrules import errors
from rankedrules.books import Book
from rankedrules.cases import Case, told_by
from rankedrules.courts import Court
from rankedrules.errors import (
    InvalidIndex, InvalidName, InvalidRow, NoRanking, NotACase, NothingToUndo, TooMany, UnknownName,
)
from rankedrules.rankings import how_many
from rankedrules.veils import Veil
from tests.arguments import A_CASE, WRONG_CASES, WRONG_INDEXES, WRONG_ROWS, ArgumentsCase, unknown_names
from tests.brute import NAMES, drawn_case, drawn_row, fitting_rows, text_of
from tests.values import OTHER_KINDS, Alike, error_of, raised

ABC = ("a", "b", "c")
VANS = Case("ann 0 2 1; bob 1 0 1; cid 1 1 0; dan 1 2 1")


def court_of(*rows):
    """A court for three rules that was told of these rows."""
    court = Court(ABC)
    for row in rows:
        court.tell(row)
    return court


def busy_court():
    """A court with changes of all kinds, some of them taken back."""
    court = court_of("++-", "+..", "...")
    court.tell_case(VANS, "ann")
    court.forget(1)
    court.tell("+.-")
    court.undo()
    court.tell("+--")
    return court


def full_court():
    """A court with twenty rows."""
    return court_of(*["+..", "++-"] * 10)


def taken_back(court):
    """The book and the number of changes, and how they are after each `undo` that can be made."""
    seen = [(court.book.text, court.changes)]
    while court.changes:
        court.undo()
        seen.append((court.book.text, court.changes))
    return seen


class NamesTest(unittest.TestCase):

    def test_a_new_court(self):
        for names in (("a",), ABC, ("cost", "near", "safe"), tuple(NAMES), ("abcdefgh", "zzzzzzzz")):
            with self.subTest(names=names):
                court = Court(names)
                self.assertEqual(court.names, names)
                self.assertEqual(court.book, Book(" ".join(names) + ":"))
                self.assertEqual((court.changes, court.book.__class__), (0, Book))

    def test_wrong_names(self):
        nested = ((("a", "b"),), ("a", ("b",)), ("a", ["b"]), (["a"],), ({},), (None,), ("a", None), (1,), (True,))
        bent = (("",), ("A",), ("a1",), ("a ",), (" ",), ("a", ""), ("a", "b "), ("abcdefghi",), ("a b",), ("a:",))
        order = (("a", "a"), ("b", "a"), ("a", "c", "b"), ("b", "aa", "c"), ("a", "b", "b"), ("aa", "a"))
        lists = (["a"], ["a", "b"], "a", "abc", {"a": 0}, {"a"}, Alike(), (Alike(),), ("a", Alike()), Book("a:").text)
        for names in (*OTHER_KINDS, (), *nested, *bent, *order, *lists, tuple("abcdefghi"), tuple("abcdefghij")):
            with self.subTest(names=str(names.__class__)):
                error = raised(Court, names)
                self.assertIs(error.__class__, InvalidName)
                self.assertIs(error.given, names)

    def test_names_can_be_passed_by_name(self):
        self.assertEqual(Court(names=ABC).names, ABC)
        self.assertEqual(error_of(Court, names=()), (InvalidName, {"given": ()}))
        self.assertEqual(list(inspect.signature(Court).parameters), ["names"])


class ObjectTest(unittest.TestCase):

    def test_equal_to_itself_alone(self):
        court, other = Court(ABC), Court(ABC)
        self.assertIs(court == court, True)
        self.assertIs(court != court, False)
        self.assertIs(court == other, False)
        self.assertIs(court != other, True)
        for value in (*OTHER_KINDS, ABC, court.book, [court], (court,), Alike()):
            with self.subTest(kind=value.__class__):
                self.assertIs(court == value, False)
                self.assertIs(court != value, True)

    def test_true_as_a_condition(self):
        for court in (Court(ABC), court_of("++-"), full_court()):
            self.assertIs(bool(court), True)

    def test_each_listed_method_stands_in_the_class_itself(self):
        for name in ("names", "book", "changes"):
            self.assertIsInstance(vars(Court)[name], property)
        for name in ("tell", "tell_case", "forget", "undo", "attempt", "tried"):
            self.assertTrue(inspect.isfunction(vars(Court)[name]))

    def test_the_parameters_have_the_listed_names(self):
        for name, parameters in {
                "tell": ["row"], "tell_case": ["case", "one"], "forget": ["index"], "undo": [], "attempt": [],
                "tried": ["act"]}.items():
            told = list(inspect.signature(getattr(Court(ABC), name)).parameters)
            self.assertEqual(told, parameters)

    def test_properties_cannot_be_set(self):
        court = court_of("++-")
        for name in ("names", "book", "changes"):
            with self.assertRaises(AttributeError):
                setattr(court, name, None)

    def test_a_book_that_was_shown_does_not_change(self):
        court = court_of("++-")
        book = court.book
        court.tell("+..")
        self.assertEqual((book.text, court.book.text), ("a b c: ++-", "a b c: ++- +.."))

    def test_two_courts_have_nothing_to_do_with_each_other(self):
        one, other = Court(ABC), Court(ABC)
        one.tell("++-")
        self.assertEqual((other.book.rows, other.changes), ((), 0))


class TellTest(unittest.TestCase):

    def test_a_row_comes_behind_the_others(self):
        court = Court(ABC)
        for at, row in enumerate(("++-", "...", "++-", "+.-")):
            self.assertIsNone(court.tell(row))
            self.assertEqual(court.book.rows[-1], row)
            self.assertEqual((len(court.book.rows), court.changes), (at + 1, at + 1))
        self.assertIsNone(court.tell(row="+.."))
        self.assertEqual(court.book.text, "a b c: ++- ... ++- +.- +..")

    def test_one_rule_and_eight_rules(self):
        court = Court(("a",))
        for row in ("+", ".", "+"):
            court.tell(row)
        self.assertEqual(error_of(court.tell, "-"), (NoRanking, {}))
        court = Court(tuple(NAMES))
        court.tell("+-------")
        self.assertEqual(error_of(court.tell, "-++++++."), (NoRanking, {}))
        court.tell(".-+.....")
        self.assertEqual(court.book.rows, ("+-------", ".-+....."))

    def test_no_ranking_just_if_none_would_fit(self):
        draw = random.Random(71)
        for many in (1, 2, 3, 4):
            for _ in range(20):
                court = Court(tuple(NAMES[:many]))
                for _ in range(12):
                    row = drawn_row(draw, many, "+-.")
                    rows = court.book.rows
                    if fitting_rows(many, (*rows, row)):
                        self.assertIsNone(court.tell(row))
                        rows += (row,)
                    else:
                        self.assertEqual(error_of(court.tell, row), (NoRanking, {}))
                    self.assertEqual(court.book.rows, rows)

    def test_twenty_rows_and_no_more(self):
        court = full_court()
        for row in ("+..", "...", "---"):
            self.assertEqual(error_of(court.tell, row), (TooMany, {"number": 20}))
        self.assertEqual(error_of(court.tell, "++"), (InvalidRow, {"given": "++"}))
        self.assertEqual((len(court.book.rows), court.changes), (20, 20))
        court.forget(19)
        self.assertEqual(error_of(court.tell, "---"), (NoRanking, {}))
        self.assertIsNone(court.tell("..."))


class TellCaseTest(unittest.TestCase):

    def test_the_rows_against_all_others_as_one_change(self):
        for one in ("ann", "bob", "cid"):
            court = Court(ABC)
            self.assertIsNone(court.tell_case(VANS, one))
            self.assertEqual((court.book.rows, court.changes), (told_by(VANS, one), 1))
            court.undo()
            self.assertEqual((court.book.rows, court.changes), ((), 0))
        court = court_of("++-")
        court.tell_case(one="bob", case=VANS)
        self.assertEqual(court.book.text, "a b c: ++- -+. .+- .+.")

    def test_two_and_eight_candidates(self):
        court = Court(("a",))
        court.tell_case(Case("a 0; b 1"), "a")
        self.assertEqual(court.book.rows, ("+",))
        court.tell_case(Case(text_of([[at] for at in range(8)])), "a")
        self.assertEqual((court.book.rows, court.changes), (("+",) * 8, 2))

    def test_a_candidate_that_can_not_have_won(self):
        court = Court(ABC)
        self.assertEqual(error_of(court.tell_case, VANS, "dan"), (NoRanking, {}))
        court.tell("+--")
        self.assertEqual(error_of(court.tell_case, VANS, "bob"), (NoRanking, {}))
        self.assertEqual((court.book.text, court.changes), ("a b c: +--", 1))

    def test_more_than_twenty_rows(self):
        eight = Case(text_of([[at, 0, 0] for at in range(8)]))
        for rows, number in ((12, None), (13, None), (14, 21), (19, 26), (20, 27)):
            court = court_of(*["+.."] * rows)
            with self.subTest(rows=rows):
                if number is None:
                    self.assertIsNone(court.tell_case(eight, "a"))
                    self.assertEqual(len(court.book.rows), rows + 7)
                else:
                    # Too many comes ahead of no ranking.
                    for one in ("a", "h"):
                        self.assertEqual(error_of(court.tell_case, eight, one), (TooMany, {"number": number}))
                    self.assertEqual(error_of(court.tell_case, eight, "z"), (UnknownName, {"given": "z"}))
                    self.assertEqual((len(court.book.rows), court.changes), (rows, rows))

    def test_no_ranking_just_if_none_would_fit(self):
        draw = random.Random(72)
        for many in (1, 2, 3, 4):
            for _ in range(30):
                court = Court(tuple(NAMES[:many]))
                for _ in range(4):
                    case = drawn_case(draw, draw.choice((2, 3, 5)), many, 2)
                    one = draw.choice(case.names)
                    rows = (*court.book.rows, *told_by(case, one))
                    if len(rows) > 20:
                        self.assertEqual(error_of(court.tell_case, case, one), (TooMany, {"number": len(rows)}))
                    elif fitting_rows(many, rows):
                        self.assertIsNone(court.tell_case(case, one))
                        self.assertEqual(court.book.rows, rows)
                    else:
                        self.assertEqual(error_of(court.tell_case, case, one), (NoRanking, {}))


class ForgetTest(unittest.TestCase):

    def test_each_row_can_go(self):
        rows = ("++-", "+.-", "++-", "...")
        for index in range(4):
            court = court_of(*rows)
            self.assertIsNone(court.forget(index))
            self.assertEqual((court.book.rows, court.changes), (rows[:index] + rows[index + 1:], 5))
        court = court_of(*rows)
        court.forget(index=0)
        self.assertEqual(court.book.rows, rows[1:])

    def test_an_index_of_no_row(self):
        court = court_of("++-", "+.-")
        for index in (2, 3, -1, 20):
            self.assertEqual(error_of(court.forget, index), (InvalidIndex, {"given": index}))
        self.assertEqual(error_of(Court(ABC).forget, 0), (InvalidIndex, {"given": 0}))
        self.assertEqual(error_of(full_court().forget, 20), (InvalidIndex, {"given": 20}))
        self.assertIsNone(full_court().forget(19))

    def test_what_a_case_told_can_be_forgotten_row_by_row(self):
        court = Court(ABC)
        court.tell_case(VANS, "bob")
        court.forget(1)
        self.assertEqual((court.book.rows, court.changes), (("-+.", ".+."), 2))

    def test_a_row_that_is_forgotten_makes_room_for_its_opposite(self):
        court = court_of("+-.")
        self.assertEqual(error_of(court.tell, "-+."), (NoRanking, {}))
        court.forget(0)
        self.assertIsNone(court.tell("-+."))


class UndoTest(unittest.TestCase):

    def test_the_changes_are_taken_back_one_by_one(self):
        court = court_of("++-")
        court.tell_case(VANS, "bob")
        court.forget(0)
        told = ["a b c: -+. .+- .+.", "a b c: ++- -+. .+- .+.", "a b c: ++-", "a b c:"]
        self.assertEqual(taken_back(court), [(text, 3 - at) for at, text in enumerate(told)])

    def test_nothing_to_take_back(self):
        court = Court(ABC)
        self.assertEqual(error_of(court.undo), (NothingToUndo, {}))
        court.tell("++-")
        self.assertIsNone(court.undo())
        self.assertEqual(error_of(court.undo), (NothingToUndo, {}))
        self.assertEqual((court.book.text, court.changes), ("a b c:", 0))
        court.tell("+..")
        self.assertEqual(taken_back(court), [("a b c: +..", 1), ("a b c:", 0)])

    def test_what_was_taken_back_is_gone(self):
        court = court_of("++-", "+..")
        court.undo()
        court.tell("...")
        self.assertEqual([text for text, _ in taken_back(court)], ["a b c: ++- ...", "a b c: ++-", "a b c:"])

    def test_many_changes(self):
        court = Court(ABC)
        for _ in range(1000):
            court.tell("++-")
            court.forget(0)
        self.assertEqual((court.changes, court.book.rows), (2000, ()))
        for left in range(2000, 0, -1):
            self.assertEqual(court.changes, left)
            court.undo()
        self.assertEqual(error_of(court.undo), (NothingToUndo, {}))


# Wrong calls of the methods of a court for three rules, with what they raise.
WRONG_CALLS = (
    [("tell", (value,), error, told) for value, error, told in WRONG_ROWS]
    + [("forget", (value,), error, told) for value, error, told in WRONG_INDEXES]
    + [("tell_case", (value, "bob"), error, told) for value, error, told in WRONG_CASES]
    + [("tell_case", (value, None), error, told) for value, error, told in WRONG_CASES]
    + [("tell_case", (value, value), error, told) for value, error, told in WRONG_CASES]
    + [("tell_case", (VANS, value), error, told) for value, error, told in unknown_names(VANS.names)]
    + [("tell", ("--+",), NoRanking, {}), ("tell_case", (VANS, "dan"), NoRanking, {})]
    + [("tell_case", (VANS, "bob"), NoRanking, {})]
)


class ErrorsTest(ArgumentsCase):

    def check_calls(self, make, calls):
        court, expected = make(), taken_back(make())
        for name, values, error, attributes in calls:
            method = getattr(court, name)
            named = dict(zip(inspect.signature(method).parameters, values))
            with self.subTest(method=name, kinds=[value.__class__ for value in values]):
                self.check_error(method, named, error, attributes)
                self.assertEqual((court.book.text, court.changes), expected[0])
        self.assertEqual(taken_back(court), expected)

    def test_a_court_is_as_it_was_behind_each_error(self):
        self.check_calls(busy_court, WRONG_CALLS)

    def test_a_full_court_is_as_it_was(self):
        calls = [call for call in WRONG_CALLS if call[2] is not NoRanking]
        late = [("tell", (row,), TooMany, {"number": 20}) for row in ("...", "++-", "--+", "---")]
        late += [("tell_case", (VANS, one), TooMany, {"number": 23}) for one in VANS.names]
        self.check_calls(full_court, calls + late)

    def test_a_new_court_is_as_it_was(self):
        calls = [call for call in WRONG_CALLS if call[2] is not NoRanking]
        late = [("forget", (0,), InvalidIndex, {"given": 0}), ("undo", (), NothingToUndo, {}),
                ("tell", ("---",), NoRanking, {}), ("tell_case", (VANS, "dan"), NoRanking, {})]
        self.check_calls(lambda: Court(ABC), calls + late)

    def test_each_error_alone(self):
        expected = taken_back(busy_court())
        for name, values, error, _ in WRONG_CALLS[::7]:
            court = busy_court()
            self.assertIs(raised(getattr(court, name), *values).__class__, error)
            self.assertEqual(taken_back(court), expected)

    def test_a_veil_is_no_case(self):
        veil = Veil("a 0; b 1")
        self.assertEqual(error_of(Court(("a",)).tell_case, veil, "a"), (NotACase, {"given": veil}))


class Stop(BaseException):
    """An error that is none of Python's own, and no Exception."""


ERRORS = (ValueError, Stop, KeyboardInterrupt, SystemExit, GeneratorExit, StopIteration, errors.NoRanking, RecursionError)


class AttemptTest(unittest.TestCase):

    def test_what_enters_is_the_court(self):
        court = court_of("++-")
        with court.attempt() as entered:
            self.assertIs(entered, court)
            self.assertEqual(court.book.text, "a b c: ++-")
        self.assertEqual((court.book.text, court.changes), ("a b c: ++-", 1))

    def test_all_changes_of_an_attempt_that_ends_well_stay(self):
        court = court_of("++-")
        with court.attempt() as entered:
            entered.tell("...")
            entered.tell_case(VANS, "ann")
            entered.forget(0)
        won = " ".join(told_by(VANS, "ann"))
        self.assertEqual([text for text, _ in taken_back(court)], [
            f"a b c: ... {won}", f"a b c: ++- ... {won}", "a b c: ++- ...", "a b c: ++-", "a b c:",
        ])

    def test_an_error_of_any_class_takes_all_back(self):
        for error in ERRORS:
            court, expected = busy_court(), taken_back(busy_court())
            with self.subTest(error=error.__name__):
                passed = None
                try:
                    with court.attempt() as entered:
                        entered.tell("...")
                        entered.forget(0)
                        entered.undo()
                        passed = error()
                        raise passed
                except BaseException as caught:
                    self.assertIs(caught, passed)
                else:
                    self.fail("the error is not passed on")
                self.assertEqual(taken_back(court), expected)

    def test_an_error_of_the_court_itself(self):
        court = court_of("++-")
        with self.assertRaises(NoRanking):
            with court.attempt():
                court.tell("...")
                court.tell("--+")
        self.assertEqual(taken_back(court), [("a b c: ++-", 1), ("a b c:", 0)])

    def test_an_error_that_is_caught_within_changes_nothing(self):
        court = court_of("++-")
        with court.attempt():
            court.tell("...")
            self.assertEqual(error_of(court.tell, "--+"), (NoRanking, {}))
            court.tell("+..")
        self.assertEqual((court.book.rows, court.changes), (("++-", "...", "+.."), 3))

    def test_undo_takes_back_what_was_done_before(self):
        court = court_of("++-", "...")
        with court.attempt():
            court.undo()
            court.undo()
            self.assertEqual(error_of(court.undo), (NothingToUndo, {}))
            court.tell("--+")
        self.assertEqual(taken_back(court), [("a b c: --+", 1), ("a b c:", 0)])

    def test_what_undo_took_back_is_there_again_behind_an_error(self):
        court = court_of("++-", "...")
        expected = taken_back(court_of("++-", "..."))
        with self.assertRaises(Stop):
            with court.attempt():
                court.undo()
                court.undo()
                court.tell("--+")
                raise Stop()
        self.assertEqual(taken_back(court), expected)

    def test_attempts_begin_where_their_rows_begin(self):
        court = Court(ABC)
        attempt = court.attempt()
        court.tell("++-")
        with self.assertRaises(Stop):
            with attempt:
                court.tell("...")
                raise Stop()
        self.assertEqual(taken_back(court), [("a b c: ++-", 1), ("a b c:", 0)])

    def test_each_attempt_is_a_new_one(self):
        court = Court(ABC)
        self.assertIsNot(court.attempt(), court.attempt())

    def test_leaving_early_is_no_error(self):
        def leave(court):
            with court.attempt():
                court.tell("++-")
                return "left"
        court = Court(ABC)
        self.assertEqual((leave(court), court.book.rows), ("left", ("++-",)))
        for row in ("...", "+.."):
            with court.attempt():
                court.tell(row)
                continue
        self.assertEqual(court.book.rows, ("++-", "...", "+.."))

    def test_attempts_within_attempts(self):
        for inner, outer in ((False, False), (True, False), (False, True), (True, True)):
            court = court_of("++-")
            rows = ["++-"]
            with self.subTest(inner=inner, outer=outer):
                try:
                    with court.attempt():
                        court.tell("+..")
                        try:
                            with court.attempt():
                                court.tell("...")
                                court.undo()
                                court.undo()
                                court.tell("+.-")
                                if inner:
                                    raise Stop()
                        except Stop:
                            self.assertEqual(court.book.rows, ("++-", "+.."))
                        else:
                            self.assertEqual(court.book.rows, ("++-", "+.-"))
                        court.tell("+--")
                        if outer:
                            raise KeyboardInterrupt()
                except KeyboardInterrupt:
                    pass
                else:
                    rows += ["+.." if inner else "+.-", "+--"]
                texts = [" ".join(["a b c:", *rows[:many]]) for many in range(len(rows), -1, -1)]
                self.assertEqual([text for text, _ in taken_back(court)], texts)

    def test_an_error_that_passes_through_several_attempts(self):
        court = court_of("++-")
        with self.assertRaises(Stop):
            with court.attempt():
                court.tell("+..")
                with court.attempt():
                    court.undo()
                    with court.attempt():
                        court.undo()
                        raise Stop()
        self.assertEqual(taken_back(court), [("a b c: ++-", 1), ("a b c:", 0)])

    def test_attempts_of_two_courts(self):
        one, other = court_of("++-"), court_of("...")
        with self.assertRaises(Stop):
            with one.attempt():
                one.tell("+..")
                with other.attempt():
                    other.tell("--+")
                other.tell("...")
                raise Stop()
        self.assertEqual((one.book.rows, other.book.rows), (("++-",), ("...", "--+", "...")))


class TriedTest(unittest.TestCase):

    def test_what_the_function_returns(self):
        court = court_of("++-")
        for value in OTHER_KINDS:
            self.assertIs(court.tried(lambda given: value), value)
        self.assertIs(court.tried(lambda given: given), court)
        self.assertIs(court.tried(act=lambda given: given), court)
        self.assertEqual((court.book.rows, court.changes), (("++-",), 1))

    def test_changes_stay_if_it_ends_well(self):
        court = court_of("++-")
        self.assertIsNone(court.tried(lambda given: given.tell("...")))
        self.assertEqual(court.tried(lambda given: how_many(given.book)), 4)
        self.assertEqual(taken_back(court)[0], ("a b c: ++- ...", 2))

    def test_an_error_of_any_class_takes_all_back(self):
        for error in ERRORS:
            court, expected = busy_court(), taken_back(busy_court())
            made = error()

            def act(given):
                given.undo()
                given.tell("...")
                raise made
            with self.subTest(error=error.__name__):
                with self.assertRaises(error) as caught:
                    court.tried(act)
                self.assertIs(caught.exception, made)
                self.assertEqual(taken_back(court), expected)

    def test_tried_within_an_attempt(self):
        court = court_of("++-")

        def fail(given):
            given.tell("...")
            given.tell("--+")
        with court.attempt():
            court.tell("+..")
            self.assertEqual(error_of(court.tried, fail), (NoRanking, {}))
        self.assertEqual((court.book.rows, court.changes), (("++-", "+.."), 2))


class Model:
    """What a court must be, with all states kept in a list."""

    def __init__(self):
        self.states = [()]

    def tell(self, rows):
        if len(self.states[-1]) + len(rows) > 20:
            return TooMany
        if not fitting_rows(3, (*self.states[-1], *rows)):
            return NoRanking
        self.states.append((*self.states[-1], *rows))
        return None.__class__

    def forget(self, index):
        rows = self.states[-1]
        if not 0 <= index < len(rows):
            return InvalidIndex
        self.states.append(rows[:index] + rows[index + 1:])
        return None.__class__

    def undo(self):
        if len(self.states) == 1:
            return NothingToUndo
        self.states.pop()
        return None.__class__


class DrawnTest(unittest.TestCase):

    def step(self, draw, court, model, depth):
        """One drawn change, or an attempt with several of them."""
        kind = draw.choice(("tell", "tell", "tell", "case", "forget", "forget", "undo", "undo", "attempt"))
        if kind == "tell":
            row = drawn_row(draw, 3, "++-..")
            self.assertIs(raised(court.tell, row).__class__, model.tell((row,)))
        elif kind == "case":
            case = drawn_case(draw, draw.choice((2, 3, 8)), 3, 2)
            one = draw.choice(case.names)
            self.assertIs(raised(court.tell_case, case, one).__class__, model.tell(told_by(case, one)))
        elif kind == "forget":
            index = draw.randint(-1, 6)
            self.assertIs(raised(court.forget, index).__class__, model.forget(index))
        elif kind == "undo":
            self.assertIs(raised(court.undo).__class__, model.undo())
        elif depth < 3:
            self.attempt(draw, court, model, depth + 1)
        self.assertEqual((court.book.rows, court.changes), (model.states[-1], len(model.states) - 1))

    def attempt(self, draw, court, model, depth):
        """An attempt with drawn changes that may end with an error."""
        held, fails = list(model.states), draw.random() < 0.5
        try:
            with court.attempt():
                for _ in range(draw.randint(0, 6)):
                    self.step(draw, court, model, depth)
                if fails:
                    raise Stop()
        except Stop:
            self.assertTrue(fails)
            model.states = held

    def test_drawn_changes_and_attempts(self):
        draw = random.Random(73)
        for _ in range(40):
            court, model = Court(ABC), Model()
            for _ in range(60):
                self.step(draw, court, model, 0)
            states = [(rows, at) for at, rows in enumerate(model.states)][::-1]
            self.assertEqual([(Book(text).rows, changes) for text, changes in taken_back(court)], states)


class ShownTest(unittest.TestCase):

    def test_a_court_shows_what_it_was_told(self):
        court = Court(ABC)
        court.tell("++-")
        court.tell_case(A_CASE, "a")
        self.assertEqual(court.book, Book("a b c: ++- +.-"))
        self.assertEqual(how_many(court.book), how_many(Book("a b c: ++- +.-")))

    def test_some_ranking_always_fits(self):
        draw = random.Random(74)
        court = Court(tuple(NAMES[:4]))
        for _ in range(300):
            raised(court.tell, drawn_row(draw, 4, "+-."))
            if draw.random() < 0.3:
                raised(court.forget, draw.randint(0, 19))
            self.assertGreater(how_many(court.book), 0)


if __name__ == "__main__":
    unittest.main()
