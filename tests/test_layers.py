"""Rows that hold, rankings that fit, the layers, and the rows that quarrel."""

import unittest
from itertools import permutations, product

from rankedrules.books import Book, fusion, opposite
from rankedrules.layers import fits, holds, layers, left_over, quarrel
from tests.arguments import NO_BOOKS, WRONG_RANKINGS, WRONG_ROWS, ArgumentsCase
from tests.brute import all_rows, book_of, drawn_books, fitting, holds_for, parts, small_books, told_books

EIGHT = "a b c d e f g h:"
BOOKS = small_books() + drawn_books(1, 60, (3, 4, 5)) + drawn_books(2, 6, (6, 7)) + told_books(3, 6, (4, 5, 6, 7, 8))


def quarrels(book, lot):
    """Whether the rows of a lot quarrel."""
    fused = fusion(book, lot)
    return "-" in fused and "+" not in fused


def layers_by_words(book):
    """The layers and the rows that stay open, as the document makes them, word by word."""
    still = {index: row for index, row in enumerate(book.rows) if set(row) != {"."}}
    made, rules = [], set(range(len(book.names)))
    while still:
        layer = {rule for rule in rules if all(row[rule] != "-" for row in still.values())}
        if not layer:
            return None, tuple(still)
        made.append(tuple(sorted(layer)))
        rules -= layer
        still = {index: row for index, row in still.items() if all(row[rule] != "+" for rule in layer)}
    return tuple(made + [tuple(sorted(rules))] * bool(rules)), None


class HoldsTest(ArgumentsCase):

    def test_each_row_and_ranking(self):
        for many in (1, 2, 3, 4):
            book = book_of(many, ())
            for row in all_rows(many):
                for ranking in permutations(range(many)):
                    self.assertIs(holds(book, row, ranking), holds_for(row, ranking), (row, ranking))

    def test_the_highest_sign_counts(self):
        book = Book("a b c:")
        for row, ranking, told in (
                ("+-.", (0, 1, 2), True), ("+-.", (1, 0, 2), False), ("+-.", (2, 0, 1), True),
                ("+-.", (2, 1, 0), False), ("...", (2, 1, 0), True), ("+++", (1, 0, 2), True),
                ("---", (1, 0, 2), False), (".-.", (0, 2, 1), False), ("..+", (0, 1, 2), True)):
            with self.subTest(row=row, ranking=ranking):
                self.assertIs(holds(book, row, ranking), told)

    def test_the_rows_of_the_book_are_not_asked(self):
        for text in ("a b:", "a b: +-", "a b: -+", "a b: -- +-", "a b:" + " --" * 20):
            with self.subTest(text=text):
                self.assertIs(holds(Book(text), "+-", (0, 1)), True)
                self.assertIs(holds(Book(text), "+-", (1, 0)), False)

    def test_one_rule_and_eight_rules(self):
        self.assertEqual([holds(Book("a:"), row, (0,)) for row in "+-."], [True, False, True])
        ranking = (7, 6, 5, 4, 3, 2, 1, 0)
        for row, told in (
                ("--------", False), ("........", True), ("-......+", True), ("+......-", False),
                ("-+......", True), ("+-......", False)):
            with self.subTest(row=row):
                self.assertIs(holds(Book(EIGHT), row, ranking), told)

    def test_just_one_of_a_row_and_its_opposite_holds(self):
        book = Book("a b c:")
        for row in all_rows(3):
            for ranking in permutations(range(3)):
                both = [holds(book, row, ranking), holds(book, opposite(row), ranking)]
                self.assertEqual(sorted(both), [True, True] if row == "..." else [False, True])

    def test_arguments(self):
        right = {"book": Book("a b c: +-. -+."), "row": "+-.", "ranking": (2, 0, 1)}
        self.check_arguments(holds, right, {"book": NO_BOOKS, "row": WRONG_ROWS, "ranking": WRONG_RANKINGS})


class FitsTest(ArgumentsCase):

    def test_each_ranking_of_each_book(self):
        for book in BOOKS:
            if len(book.names) < 7:
                fit = fitting(book)
                told = [ranking for ranking in permutations(range(len(book.names))) if fits(book, ranking)]
                self.assertEqual(told, fit, book.text)

    def test_it_tells_true_or_false(self):
        self.assertIs(fits(Book("a b c: ++-"), (0, 2, 1)), True)
        self.assertIs(fits(Book("a b c: ++-"), (2, 0, 1)), False)

    def test_no_row_and_rows_of_no_sign_fit_all(self):
        for text in ("a b c:", "a b c: ...", "a b c:" + " ..." * 20):
            for ranking in permutations(range(3)):
                self.assertIs(fits(Book(text), ranking), True)

    def test_one_rule_and_eight_rules(self):
        self.assertEqual([fits(Book(f"a: {sign}"), (0,)) for sign in "+-."], [True, False, True])
        book = Book(EIGHT + " +-......" * 19 + " .......+")
        self.assertIs(fits(book, (2, 3, 4, 5, 6, 7, 0, 1)), True)
        self.assertIs(fits(book, (2, 3, 4, 5, 6, 7, 1, 0)), False)
        self.assertIs(fits(Book(EIGHT + " ........" * 19 + " .......-"), (0, 1, 2, 3, 4, 5, 6, 7)), False)

    def test_each_row_is_asked(self):
        self.assertIs(fits(Book("a b: +. .+ -+"), (0, 1)), False)
        self.assertIs(fits(Book("a b: -+ +. .+"), (0, 1)), False)
        self.assertIs(fits(Book("a b: +. .+ +-"), (0, 1)), True)

    def test_arguments(self):
        for text in ("a b c: ++-", "a b c: +-. -+.", "a b c:"):
            right = {"book": Book(text), "ranking": (2, 0, 1)}
            self.check_arguments(fits, right, {"book": NO_BOOKS, "ranking": WRONG_RANKINGS})


class LayersTest(ArgumentsCase):

    def test_layers_as_the_document_makes_them(self):
        for book in BOOKS:
            with self.subTest(text=book.text):
                made, still = layers_by_words(book)
                self.assertEqual(layers(book), made)
                self.assertEqual(left_over(book), still)

    def test_there_are_layers_exactly_if_a_ranking_fits(self):
        for book in BOOKS:
            with self.subTest(text=book.text):
                self.assertEqual(layers(book) is not None, fitting(book) != [])
                self.assertEqual(left_over(book) is None, fitting(book) != [])
                self.assertEqual(quarrel(book) is None, fitting(book) != [])

    def test_rankings_that_go_from_layer_to_layer_fit(self):
        for book in BOOKS:
            made = layers(book)
            if made is not None:
                for orders in product(*[(layer, layer[::-1]) for layer in made]):
                    ranking = tuple(rule for layer in orders for rule in layer)
                    self.assertIs(fits(book, ranking), True, book.text)

    def test_layers(self):
        for text, made in {
                "a:": ((0,),), "a: +": ((0,),), "a: .": ((0,),), "a: -": None, "a: + -": None,
                "a b:": ((0, 1),), "a b: ++": ((0, 1),), "a b: +.": ((0, 1),), "a b: +-": ((0,), (1,)),
                "a b: -+": ((1,), (0,)), "a b: ..": ((0, 1),), "a b c: -+. .-+": ((2,), (1,), (0,)),
                "a b c: +-. +.-": ((0,), (1, 2)), "a b c: +.- .+-": ((0, 1), (2,)), "a b c: +-.": ((0, 2), (1,)),
                "a b: +- -+": None, "a b: --": None, "a b: .. --": None,
                EIGHT: ((0, 1, 2, 3, 4, 5, 6, 7),), EIGHT + " -------+": ((7,), (0, 1, 2, 3, 4, 5, 6)),
                EIGHT + " ........" * 20: ((0, 1, 2, 3, 4, 5, 6, 7),),
                EIGHT + " -+...... .-+..... ..-+.... ...-+... ....-+.. .....-+. ......-+": (
                    (7,), (6,), (5,), (4,), (3,), (2,), (1,), (0,)),
        }.items():
            with self.subTest(text=text):
                self.assertEqual(layers(Book(text)), made)

    def test_rows_left_over(self):
        for text, still in {
                "a:": None, "a: +": None, "a: .": None, "a: -": (0,), "a: + -": (0, 1), "a: - . + -": (0, 2, 3),
                "a b: -. ++ ..": (0,), "a b: +- -+": (0, 1), "a b: .. +- .. -+ ++": (1, 3, 4), "a b: --": (0,),
                "a b: -- ++": (0, 1), "a b c: ++. -+. +-. ...": (0, 1, 2), "a b c: ++. -+. +-. ..-": (0, 1, 2, 3), "a b c: +-. -.+ .-+": None,
                "a b c: ..+ ++. -.+ -+. +-.": (1, 3, 4),
                "a b:" + " --" * 20: tuple(range(20)), "a b:" + " .." * 19 + " -.": (19,),
                "a b:" + " .." * 20: None,
        }.items():
            with self.subTest(text=text):
                self.assertEqual(left_over(Book(text)), still)

    def test_arguments(self):
        for text in ("a b c: ++-", "a b c: +-. -+.", "a b c:"):
            for function in (layers, left_over, quarrel):
                self.check_arguments(function, {"book": Book(text)}, {"book": NO_BOOKS})


class QuarrelTest(unittest.TestCase):

    def test_the_rows_quarrel_and_no_smaller_part_does(self):
        for book in BOOKS:
            lot = quarrel(book)
            if lot is not None:
                with self.subTest(text=book.text):
                    self.assertIs(lot.__class__, tuple)
                    self.assertEqual(list(lot), sorted(set(lot)))
                    self.assertEqual([part for part in parts(lot) if quarrels(book, part)], [lot])

    def test_no_ranking_fits_the_rows_that_quarrel(self):
        for book in BOOKS:
            lot = quarrel(book)
            if lot is not None:
                rows = [book.rows[index] for index in lot]
                self.assertEqual(fitting(book_of(len(book.names), rows)), [], book.text)

    def test_rows_that_quarrel(self):
        for text, lot in {
                "a:": None, "a: +": None, "a: .": None, "a: -": (0,), "a: + . -": (2,), "a b: +- -+": (0, 1),
                "a b: ++ .. -+ .. +-": (2, 4), "a b: +- --": (1,), "a b c: +-. .+- -.+": (0, 1, 2),
                "a b c: +-. .+- -.+ .--": (3,), "a b:" + " .." * 19 + " -.": (19,), "a b:" + " ++" * 20: None,
                EIGHT + " ++------ --++---- ----++-- ------++": (2, 3),
                EIGHT + " ++--.... ..++--.. ....++-- --....++": (0, 1, 2, 3),
        }.items():
            with self.subTest(text=text):
                self.assertEqual(quarrel(Book(text)), lot)

    def test_twenty_rows(self):
        for row in ("--------", "-......."):
            self.assertEqual(len(quarrel(Book(EIGHT + f" {row}" * 20))), 1)
        ring = ["+-......", ".+-.....", "..+-....", "...+-...", "....+-..", ".....+-.", "......+-", "-......+"]
        book = Book(" ".join([EIGHT, *["++++++++"] * 12, *ring]))
        self.assertEqual(quarrel(book), tuple(range(12, 20)))
        self.assertIsNone(quarrel(book.without(15)))

    def test_equal_calls_give_equal_results(self):
        book = Book("a b: -. -- .- +-")
        self.assertEqual(quarrel(book), quarrel(Book("a b: -. -- .- +-")))


if __name__ == "__main__":
    unittest.main()
