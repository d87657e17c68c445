"""Books: their texts, properties and methods, and when two are equal."""

import inspect
import re
import unittest

from rankedrules.books import Book
from rankedrules.errors import InvalidIndex, InvalidRow, InvalidText, TooMany
from tests.values import HUGE, OTHER_KINDS, Alike, error_of, raised

EIGHT_NAMES = ("a", "bb", "cc", "dddddddd", "e", "f", "g", "zzzzzzzz")
TWENTY_ROWS = tuple(["+-.", ".+-", "...", "--+"] * 5)

GOOD = {
    "a:": (("a",), ()),
    "a: +": (("a",), ("+",)),
    "z: - . + -": (("z",), ("-", ".", "+", "-")),
    "a aa b: +-. +-.": (("a", "aa", "b"), ("+-.", "+-.")),
    "abcdefgh: .": (("abcdefgh",), (".",)),
    "cost near safe:": (("cost", "near", "safe"), ()),
    " ".join(EIGHT_NAMES) + ":": (EIGHT_NAMES, ()),
    " ".join(EIGHT_NAMES) + ": +-.+-.+- ........": (EIGHT_NAMES, ("+-.+-.+-", "........")),
    "a b c: " + " ".join(TWENTY_ROWS): (("a", "b", "c"), TWENTY_ROWS),
    " ".join(EIGHT_NAMES) + ":" + " ++++----" * 20: (EIGHT_NAMES, ("++++----",) * 20),
}

BENT = (
    "", " ", ":", "::", " :", ": +", "a", "a +", "a;", "+", "a b", "a:+", "a :", "a : +", "a: ", "a:  +",
    " a:", " a: +", "a: + ", "a: +  +", "a::", "a:: +", "a: :", "a: +:", "a: + b:", "a\n: +", "a:\n+",
    "a: +\n", "\na: +", "a:\n", "a, b: ++", "a  b: ++", "a b : ++", "A: +", "aB: +", "a1: +", "1: +",
    "a-b: +", "a_: +", "a.: +", "abcdefghi: +", "a abcdefghi: ++", "a a: ++", "b a: ++", "a c b: +++",
    "ab aa: ++", "aa a: ++", "a b a: +++", "a: x", "a: *", "a: 0", "a: ++", "a b: +", "a b: +++",
    "a b: ++ +", "a b: + ++", "a b: +,", "a b: + +", "cost near: +-.", "a: +,-", "a: + - x", "a: + . -- +",
    "a b c d e f g h i:", "a b c d e f g h i: +++++++++", "a b c d e f g h i: ++++++++",
    "a:" + " +" * 21, "a b c:" + " +-." * 21, "a b c d e f g h:" + " ........" * 21,
)


def told_by_form(text):
    """The names and rows by the form of the text alone, None if it is no text of a book."""
    form = r"([a-z]{1,8}(?: [a-z]{1,8}){0,7}):((?: [-+.]{1,8}){0,20})"
    match = re.fullmatch(form, text)
    if match is None:
        return None
    names, rows = tuple(match[1].split(" ")), tuple(match[2].split())
    if list(names) != sorted(set(names)) or any(len(row) != len(names) for row in rows):
        return None
    return names, rows


def bent_by_one_character(text):
    """All texts that differ from this one by one character, left out, put in or changed."""
    for at in range(len(text) + 1):
        yield text[:at] + text[at + 1:]
        yield text[:at] + text[at:at + 2][::-1] + text[at + 2:]
        for letter in "abzAZ09 :;,+-.*/_\n~":
            yield text[:at] + letter + text[at:]
            yield text[:at] + letter + text[at + 1:]


class TextTest(unittest.TestCase):

    def test_a_book_is_made_of_its_text(self):
        for text, (names, rows) in GOOD.items():
            with self.subTest(text=text):
                book = Book(text)
                self.assertEqual((book.text, book.names, book.rows), (text, names, rows))
                self.assertEqual((book.names.__class__, book.rows.__class__), (tuple, tuple))

    def test_a_text_that_is_bent_makes_no_book(self):
        for text in BENT:
            with self.subTest(text=text):
                self.assertEqual(error_of(Book, text), (InvalidText, {"given": text}))

    def test_a_value_of_another_kind_makes_no_book(self):
        for value in OTHER_KINDS:
            with self.subTest(kind=value.__class__):
                error = raised(Book, value)
                self.assertIs(error.__class__, InvalidText)
                self.assertIs(error.given, value)

    def test_texts_bent_by_one_character(self):
        for text in ("a: +", "b:", "a bb c: +-. .+-", "abcdefg x: ++ -.", "a b c d e f g h: ++++++++"):
            for bent in bent_by_one_character(text):
                with self.subTest(bent=bent):
                    self.check_as_told_by_form(bent)

    def check_as_told_by_form(self, text):
        told = told_by_form(text)
        if told is None:
            self.assertEqual(error_of(Book, text), (InvalidText, {"given": text}))
        else:
            book = Book(text)
            self.assertEqual((book.names, book.rows, book.text), (*told, text))

    def test_so_many_rules_and_rows_as_the_limits_let(self):
        for many in range(1, 12):
            for rows in range(24):
                names = " ".join("abcdefghijkl"[:many])
                text = f"{names}:{(' ' + '+' * many) * rows}"
                with self.subTest(many=many, rows=rows):
                    error = raised(Book, text)
                    self.assertEqual(error is None, many <= 8 and rows <= 20)

    def test_names_of_each_length(self):
        for length in range(12):
            with self.subTest(length=length):
                self.assertEqual(raised(Book, "k" * length + ": +") is None, 1 <= length <= 8)

    def test_the_text_can_be_passed_by_name(self):
        self.assertEqual(Book(text="a: +").text, "a: +")
        self.assertEqual(error_of(Book, text="a"), (InvalidText, {"given": "a"}))


class WithRowTest(unittest.TestCase):

    def test_the_row_stands_behind_the_others(self):
        book = Book("cost near safe: ++-")
        self.assertEqual(book.with_row(".+-").text, "cost near safe: ++- .+-")
        self.assertEqual(book.with_row("++-").rows, ("++-", "++-"))
        self.assertEqual(book.with_row(row="...").rows, ("++-", "..."))

    def test_the_first_row(self):
        self.assertEqual(Book("a:").with_row("-").text, "a: -")
        self.assertEqual(Book(" ".join(EIGHT_NAMES) + ":").with_row("+-.+-.+-").rows, ("+-.+-.+-",))

    def test_twenty_rows_and_no_more(self):
        book = Book("a b c:")
        for row in TWENTY_ROWS:
            book = book.with_row(row)
        self.assertEqual(book.rows, TWENTY_ROWS)
        self.assertEqual(error_of(book.with_row, "+++"), (TooMany, {"number": 20}))
        self.assertEqual(error_of(book.with_row, row="..."), (TooMany, {"number": 20}))

    def test_a_wrong_row(self):
        book = Book("a b c: +-.")
        for row in ("", "+", "++", "++++", "++ ", " ++", "+ +", "++x", "++\n", "++*", "+0-", "abc", "+++ +++"):
            with self.subTest(row=row):
                self.assertEqual(error_of(book.with_row, row), (InvalidRow, {"given": row}))

    def test_a_row_of_another_kind(self):
        for value in (*OTHER_KINDS, ("+", "+", "-"), ["+", "+", "-"], b"++-"):
            with self.subTest(kind=value.__class__):
                error = raised(Book("a b c:").with_row, value)
                self.assertIs(error.__class__, InvalidRow)
                self.assertIs(error.given, value)

    def test_a_wrong_row_comes_ahead_of_too_many(self):
        book = Book("a b c: " + " ".join(TWENTY_ROWS))
        self.assertEqual(error_of(book.with_row, "++"), (InvalidRow, {"given": "++"}))


class WithoutTest(unittest.TestCase):

    def test_each_row_can_be_left_out(self):
        rows = ("+-.", "+++", "+-.", "---")
        book = Book("a b c: " + " ".join(rows))
        for index in range(4):
            with self.subTest(index=index):
                left = rows[:index] + rows[index + 1:]
                self.assertEqual(book.without(index).rows, left)
                self.assertEqual(book.without(index=index).text, "a b c: " + " ".join(left))

    def test_the_last_row_leaves_no_space(self):
        self.assertEqual(Book("a: +").without(0).text, "a:")

    def test_twenty_rows(self):
        book = Book("a b c: " + " ".join(TWENTY_ROWS))
        self.assertEqual(book.without(19).rows, TWENTY_ROWS[:19])
        self.assertEqual(error_of(book.without, 20), (InvalidIndex, {"given": 20}))

    def test_an_index_of_no_row(self):
        book = Book("a b c: +-. .+-")
        for index in (2, 3, -1, -2, 20, HUGE, -HUGE):
            with self.subTest(kind=len(f"{index:x}")):
                self.assertEqual(error_of(book.without, index), (InvalidIndex, {"given": index}))
        self.assertEqual(error_of(Book("a:").without, 0), (InvalidIndex, {"given": 0}))

    def test_an_index_of_another_kind(self):
        book = Book("a b c: +-. .+-")
        for value in OTHER_KINDS:
            if value.__class__ is not int:
                with self.subTest(kind=value.__class__):
                    error = raised(book.without, value)
                    self.assertIs(error.__class__, InvalidIndex)
                    self.assertIs(error.given, value)


class ObjectTest(unittest.TestCase):

    def test_str_and_repr(self):
        for text, (names, _) in GOOD.items():
            with self.subTest(text=text):
                self.assertEqual(str(Book(text)), text)
                self.assertEqual(repr(Book(text)), f"Book with {len(names)} rules")
        self.assertEqual(repr(Book("a: +")), "Book with 1 rules")

    def test_equal_if_the_texts_are(self):
        texts = [*GOOD, "a: + +", "a: + -", "a: - +", "b: +", "a b:", "cost near safe: +-."]
        for one in texts:
            for other in texts:
                with self.subTest(one=one, other=other):
                    self.assertIs(Book(one) == Book(other), one == other)
                    self.assertIs(Book(one) != Book(other), one != other)

    def test_equal_however_it_was_made(self):
        self.assertEqual(Book("a: +").with_row("-"), Book("a: + -"))
        self.assertEqual(Book("a: + -").without(1), Book("a: +"))

    def test_never_equal_to_a_value_of_another_class(self):
        book = Book("a b c: +-.")
        values = [value for value in OTHER_KINDS if not isinstance(value, Book)]
        for value in (*values, "a b c: +-.", book.names, book.rows, [book], Alike()):
            with self.subTest(kind=value.__class__):
                self.assertIs(book == value, False)
                self.assertIs(book != value, True)

    def test_true_as_a_condition(self):
        for text in GOOD:
            with self.subTest(text=text):
                self.assertIs(bool(Book(text)), True)

    def test_a_book_never_changes(self):
        book = Book("a b c: +-. .+-")
        raised(book.with_row, "+++")
        raised(book.with_row, "bad")
        raised(book.without, 0)
        raised(book.without, 9)
        for name in ("text", "names", "rows"):
            with self.assertRaises(AttributeError):
                setattr(book, name, "a: +")
        self.assertEqual((book.text, book.names), ("a b c: +-. .+-", ("a", "b", "c")))
        self.assertEqual(book.rows, ("+-.", ".+-"))

    def test_equal_calls_give_equal_results(self):
        book = Book("a b c: +-. .+-")
        self.assertEqual(book.with_row("+++"), book.with_row("+++"))
        self.assertEqual(book.without(1), book.without(1))

    def test_each_listed_method_stands_in_the_class_itself(self):
        for name in ("text", "names", "rows", "with_row", "without"):
            with self.subTest(name=name):
                self.assertIn(name, vars(Book))

    def test_the_parameters_have_the_listed_names(self):
        self.assertEqual(list(inspect.signature(Book).parameters), ["text"])
        self.assertEqual(list(inspect.signature(Book("a:").with_row).parameters), ["row"])
        self.assertEqual(list(inspect.signature(Book("a:").without).parameters), ["index"])


if __name__ == "__main__":
    unittest.main()
