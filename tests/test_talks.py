"""Talks: what a court answers to lines, and to texts of several lines."""

import random
import re
import unittest

from rankedrules.cases import Case
from rankedrules.courts import Court
from rankedrules.errors import InvalidText, NotACourt
from rankedrules.following import judge
from rankedrules.layers import layers
from rankedrules.rankings import how_many
from rankedrules.talks import answer, talk
from tests.arguments import NO_COURTS, ArgumentsCase, but, given
from tests.brute import NAMES, all_rows, drawn_row
from tests.test_courts import taken_back
from tests.values import OTHER_KINDS, Alike, error_of, raised

ABC = ("a", "b", "c")


def court_of(*rows):
    """A court for three rules that was told of these rows."""
    court = Court(ABC)
    for row in rows:
        court.tell(row)
    return court


GOOD = (
    "tell +", "tell .", "tell +-.+-.+-", "tell ++-", "forget 0", "forget 7", "forget 10", "forget 12345678901234567890",
    "undo", "rows", "count", "layers", "judge -", "judge ++-", "judge ........", "above a b", "above a a",
    "above abcdefgh zzzzzzzz", "above undo rows",
)
BENT = (
    "", " ", "tell", "tell ", "tell  ++-", " tell ++-", "tell ++- ", "tell ++- +", "tell +x-", "tell abc", "tell +++++++++",
    "tell", "Tell ++-", "TELL ++-", "tell++-", "tell\t++-", "tell 0", "forget", "forget ", "forget -1", "forget +1",
    "forget 01", "forget 00", "forget 0 ", "forget 0 1", "forget  0", "forget 1.0", "forget a", "forget 1_0", "forget 0x1",
    "forget ++-", "forgets 0", "undo ", " undo", "undo 1", "undo undo", "Undo", "rows ", "rows 1", "row", "count 1", "counts",
    "count ", "layers 0", "layer", "layers ", "judge", "judge ", "judge abc", "judge ++- ++-", "judge +++++++++", "judge  +",
    "above", "above a", "above a ", "above  a", "above a  b", "above a b ", "above a b c", "above A b", "above a B",
    "above a 1", "above abcdefghi a", "above a abcdefghi", "above + -", "above a, b", "above a b\n", "tell ++-\n", "undo\n",
    "\nundo", "undo\nundo", "rows\n", "names", "attempt", "tell_case ann", "help", "done", "no", "none", ".", "++-",
    "forget 1 ", "judge +-. ", "tell + +", "tell: ++-", "x" * 4000, "tell " + "+" * 3990, "forget 0" + "1" * 3990,
)


def is_line_by_form(line):
    """Whether it is a line by its form alone."""
    form = r"(tell|judge) [-+.]{1,8}|forget (0|[1-9][0-9]*)|undo|rows|count|layers|above [a-z]{1,8} [a-z]{1,8}"
    return re.fullmatch(form, line) is not None


class LineTest(ArgumentsCase):

    def test_each_kind_of_line(self):
        for line in GOOD:
            with self.subTest(line=line):
                self.assertTrue(is_line_by_form(line))
                self.assertIs(answer(court_of("++-"), line).__class__, str)

    def test_a_line_that_is_none(self):
        court, expected = court_of("++-", "+.."), taken_back(court_of("++-", "+.."))
        for line in BENT:
            with self.subTest(line=line[:40]):
                self.assertFalse(is_line_by_form(line))
                self.assertEqual(error_of(answer, court, line), (InvalidText, {"given": line}))
                self.assertEqual(error_of(answer, Court(("a",)), line=line), (InvalidText, {"given": line}))
        self.assertEqual(taken_back(court), expected)

    def test_lines_bent_by_one_character(self):
        for line in ("tell ++-", "forget 10", "undo", "rows", "count", "layers", "judge +", "above a bc"):
            for at in range(len(line) + 1):
                for letter in ("", *"abuU01+-. \n_"):
                    for bent in (line[:at] + letter + line[at:], line[:at] + letter + line[at + 1:]):
                        court = court_of("++-")
                        found = raised(answer, court, bent)
                        self.assertEqual(found is None, is_line_by_form(bent), bent)
                        if found is not None:
                            self.assertEqual((found.__class__, found.given), (InvalidText, bent))
                            self.assertEqual((court.book.rows, court.changes), (("++-",), 1))

    def test_arguments(self):
        lines = given(InvalidText, (*but(str), "", "x", "tell", ["undo"], ("undo",), b"undo", Alike()))
        for line in ("count", "rows", "layers", "judge ++-", "above a b"):
            right = {"court": court_of("++-"), "line": line}
            self.check_arguments(answer, right, {"court": NO_COURTS, "line": lines})

    def test_a_class_or_the_names_are_no_court(self):
        for value in (Court, ABC, court_of("++-").book, [court_of()], None):
            error = raised(answer, value, "x")
            self.assertEqual((error.__class__, error.given), (NotACourt, value))


class ChangeTest(unittest.TestCase):

    def test_tell(self):
        court = Court(ABC)
        for row, told in (
                ("++-", "done"), ("--+", "no NoRanking"), ("---", "no NoRanking"), ("...", "done"), ("++", "no InvalidRow"),
                ("++-+", "no InvalidRow"), ("+", "no InvalidRow"), ("++++++++", "no InvalidRow"), ("++-", "done")):
            held = taken_back(court_of(*court.book.rows))
            with self.subTest(row=row):
                self.assertEqual(answer(court, f"tell {row}"), told)
                self.assertEqual(court.book.rows[-1] == row and court.changes == held[0][1] + 1, told == "done")
        self.assertEqual((court.book.rows, court.changes), (("++-", "...", "++-"), 3))

    def test_tell_a_full_court(self):
        court = court_of(*["+.."] * 20)
        for row, told in (("+..", "no TooMany"), ("-..", "no TooMany"), ("+.", "no InvalidRow")):
            self.assertEqual(answer(court, f"tell {row}"), told)
        self.assertEqual((len(court.book.rows), court.changes), (20, 20))
        self.assertEqual(answer(court, "forget 19"), "done")
        self.assertEqual(answer(court, "tell -.."), "no NoRanking")
        self.assertEqual(answer(court, "tell ..."), "done")

    def test_forget(self):
        court = court_of("++-", "+..", "...")
        for number, told, rows in (
                ("3", "no InvalidIndex", ("++-", "+..", "...")), ("1", "done", ("++-", "...")),
                ("2", "no InvalidIndex", ("++-", "...")), ("10", "no InvalidIndex", ("++-", "...")),
                ("100", "no InvalidIndex", ("++-", "...")), ("1" + "0" * 3980, "no InvalidIndex", ("++-", "...")),
                ("0", "done", ("...",)), ("0", "done", ()), ("0", "no InvalidIndex", ())):
            self.assertEqual(answer(court, f"forget {number}"), told)
            self.assertEqual(court.book.rows, rows)
        self.assertEqual(court.changes, 6)

    def test_forget_each_of_twenty_rows(self):
        for number in range(30):
            court = court_of(*["+..", "++-"] * 10)
            rows = list(court.book.rows)
            if number < 20:
                del rows[number]
            self.assertEqual(answer(court, f"forget {number}"), "done" if number < 20 else "no InvalidIndex")
            self.assertEqual(court.book.rows, tuple(rows))

    def test_undo(self):
        court = court_of("++-")
        court.tell_case(Case("x 0 1 1; y 1 0 1; z 1 1 0"), "x")
        self.assertEqual([answer(court, "undo") for _ in range(4)], ["done", "done", "no NothingToUndo", "no NothingToUndo"])
        self.assertEqual((court.book.rows, court.changes), ((), 0))

    def test_changes_are_taken_back_by_undo(self):
        court = Court(ABC)
        talk(court, "tell ++-\ntell ...\nforget 0\ntell --+\nforget 9")
        self.assertEqual([text for text, _ in taken_back(court)], [
            "a b c: ... --+", "a b c: ...", "a b c: ++- ...", "a b c: ++-", "a b c:"])


class QuestionTest(unittest.TestCase):

    def test_rows(self):
        self.assertEqual(answer(Court(ABC), "rows"), "none")
        self.assertEqual(answer(court_of("++-"), "rows"), "++-")
        self.assertEqual(answer(court_of("++-", "...", "++-"), "rows"), "++- ... ++-")
        self.assertEqual(answer(court_of(*["+.."] * 20), "rows"), " ".join(["+.."] * 20))

    def test_count(self):
        for rows, number in (((), "6"), (("++-",), "4"), (("+-.", ".+-"), "1"), (("+..",), "6")):
            self.assertEqual(answer(court_of(*rows), "count"), number)
        self.assertEqual(answer(Court(tuple(NAMES)), "count"), "40320")
        self.assertEqual(answer(Court(("a",)), "count"), "1")

    def test_layers(self):
        for rows, told in (
                ((), "a b c"), (("++-",), "a b / c"), (("+-.", ".+-"), "a / b / c"), (("--+",), "c / a b"),
                (("-+.",), "b c / a"), (("...",), "a b c")):
            self.assertEqual(answer(court_of(*rows), "layers"), told)
        court = Court(("cost", "near", "safe"))
        court.tell("-+-")
        self.assertEqual(answer(court, "layers"), "near / cost safe")
        self.assertEqual(answer(Court(("x",)), "layers"), "x")

    def test_judge(self):
        court = court_of("++-")
        for row in all_rows(3):
            self.assertEqual(answer(court, f"judge {row}"), judge(court.book, row))
        for row in ("+", "++", "++++", "........"):
            self.assertEqual(answer(court, f"judge {row}"), "no InvalidRow")
        self.assertEqual([answer(court, f"judge {row}") for row in ("..+", "+-.", "--+")], ["sure", "open", "never"])

    def test_above(self):
        court = court_of("+-.", ".+-")
        for one, other, told in (
                ("a", "b", "sure"), ("b", "a", "never"), ("a", "c", "sure"), ("c", "b", "never"), ("a", "a", "no UnknownName"),
                ("a", "d", "no UnknownName"), ("d", "a", "no UnknownName"), ("d", "d", "no UnknownName"),
                ("ab", "c", "no UnknownName"), ("abcdefgh", "zzzzzzzz", "no UnknownName"), ("c", "c", "no UnknownName")):
            self.assertEqual(answer(court, f"above {one} {other}"), told)
        self.assertEqual(answer(court_of("++-"), "above a c"), "open")
        self.assertEqual(answer(court_of("++-"), "above a b"), "open")
        self.assertEqual(answer(Court(("a",)), "above a a"), "no UnknownName")

    def test_questions_change_nothing(self):
        court, expected = court_of("++-", "+.."), taken_back(court_of("++-", "+.."))
        for line in ("rows", "count", "layers", "judge ++-", "judge +", "above a b", "above a x"):
            self.assertEqual(answer(court, line), answer(court, line))
        self.assertEqual(taken_back(court), expected)

    def test_one_rule_and_eight_rules(self):
        court = Court(tuple(NAMES))
        text = "tell +-------\ncount\nlayers\nabove a h\njudge ........\njudge .\nabove h a\nrows"
        told = "done\n5040\na / b c d e f g h\nsure\nsure\nno InvalidRow\nnever\n+-------"
        self.assertEqual(talk(court, text), told)
        court = Court(("only",))
        self.assertEqual(talk(court, "layers\ncount\njudge -\ntell -\ntell +"), "only\n1\nnever\nno NoRanking\ndone")


class TalkTest(ArgumentsCase):

    def test_answers_line_by_line(self):
        court, other = Court(ABC), Court(ABC)
        lines = ("rows", "tell ++-", "above a c", "tell +-.", "tell .+-", "layers", "undo", "forget 5", "rows", "count")
        told = talk(court, "\n".join(lines))
        self.assertEqual(told.split("\n"), [answer(other, line) for line in lines])
        self.assertEqual(taken_back(court), taken_back(other))

    def test_one_line(self):
        for line in GOOD:
            self.assertEqual(talk(court_of("++-"), line), answer(court_of("++-"), line))

    def test_the_first_line_that_is_none(self):
        for text, wrong, rows in (
                ("", "", ("++-",)), ("\n", "", ("++-",)), ("tell +..\n", "", ("++-", "+..")),
                ("tell +..\n\ntell ...", "", ("++-", "+..")), ("\ntell +..", "", ("++-",)),
                ("tell +..\ntell ...\nx\ny", "x", ("++-", "+..", "...")), ("undo\ntell  +..", "tell  +..", ()),
                ("forget 0\nrows\nRows\ntell ...", "Rows", ()), (" tell +..\ntell ...", " tell +..", ("++-",)),
                ("undo\nundo\nundo\nundo \nundo", "undo ", ()), ("tell --+\ntell +..\nlayers\n ", " ", ("++-", "+.."))):
            court = court_of("++-")
            with self.subTest(text=text):
                self.assertEqual(error_of(talk, court, text), (InvalidText, {"given": wrong}))
                self.assertEqual(court.book.rows, rows)

    def test_what_the_lines_before_changed_can_be_taken_back(self):
        court = court_of("++-")
        raised(talk, court, "tell +..\nforget 0\nwrong\nundo")
        self.assertEqual([text for text, _ in taken_back(court)], ["a b c: +..", "a b c: ++- +..", "a b c: ++-", "a b c:"])

    def test_arguments(self):
        texts = given(InvalidText, (*but(str), "", "x", ["undo"], ("undo",), b"undo", Alike()))
        right = {"court": court_of("++-"), "text": "rows\ncount\nlayers"}
        self.check_arguments(talk, right, {"court": NO_COURTS, "text": texts})

    def test_a_text_that_is_no_string(self):
        for value in (value for value in OTHER_KINDS if not isinstance(value, str)):
            error = raised(talk, court_of("++-"), value)
            self.assertIs(error.__class__, InvalidText)
            self.assertIs(error.given, value)

    def test_drawn_talks(self):
        draw = random.Random(91)
        for _ in range(60):
            court, lines, told = Court(ABC), [], []
            for _ in range(15):
                book = court.book
                kind = draw.choice(("tell", "tell", "judge", "count", "layers", "rows", "above"))
                row, pair = drawn_row(draw, 3, "++-."), draw.sample(ABC, 2)
                if kind == "tell":
                    lines.append(f"tell {row}")
                    found = raised(court.tell, row)
                    told.append("done" if found is None else f"no {found.__class__.__name__}")
                elif kind == "judge":
                    lines.append(f"judge {row}")
                    told.append(judge(book, row))
                elif kind == "above":
                    lines.append(" ".join(["above", *pair]))
                    told.append(judge(book, "".join({pair[0]: "+", pair[1]: "-"}.get(name, ".") for name in ABC)))
                else:
                    lines.append(kind)
                    told.append({
                        "count": str(how_many(book)), "rows": " ".join(book.rows) or "none",
                        "layers": " / ".join(" ".join(ABC[rule] for rule in layer) for layer in layers(book)),
                    }[kind])
            self.assertEqual(talk(Court(ABC), "\n".join(lines)), "\n".join(told))


if __name__ == "__main__":
    unittest.main()
