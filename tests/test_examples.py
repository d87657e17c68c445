"""The examples of the interface, as they are printed there."""

import unittest

from tests.examples import steps, take

BOOKS = """
>>> from rankedrules.books import Book, fusion, opposite
>>> small, wide, bad = Book("cost near safe: +-. .+-"), Book("cost near safe: ++-"), Book("cost near safe: +-. -+.")
>>> [small.names, small.rows, str(small.without(0)), str(wide.with_row(".+-")), opposite("+-."), fusion(small, (0, 1)), fusion(bad, (0, 1)), fusion(bad, ())]
[('cost', 'near', 'safe'), ('+-.', '.+-'), 'cost near safe: .+-', 'cost near safe: ++- .+-', '-+.', '+--', '--.', '...']
>>> Book("cost near: +-.")
raises InvalidText(given='cost near: +-.')
"""

LAYERS = """
>>> from rankedrules.layers import fits, holds, layers, left_over, quarrel
>>> free, ring = Book("cost near safe:"), Book("cost near safe: +-. .+- -.+")
>>> [layers(small), layers(wide), layers(free), layers(bad), left_over(bad), left_over(small), quarrel(bad), quarrel(ring)]
[((0,), (1,), (2,)), ((0, 1), (2,)), ((0, 1, 2),), None, (0, 1), None, (0, 1), (0, 1, 2)]
>>> [holds(free, "+-.", (2, 1, 0)), holds(free, ".+.", (2, 1, 0)), fits(wide, (0, 2, 1)), fits(wide, (2, 0, 1)), left_over(Book("a b: -. ++ .."))]
[False, True, True, False, (0,)]
"""

RANKINGS = """
>>> from rankedrules.rankings import beginnings, how_many, number_of, places, ranking_at
>>> [how_many(small), how_many(wide), how_many(free), how_many(bad), ranking_at(wide, 3), number_of(wide, (1, 0, 2)), number_of(wide, (2, 0, 1)), places(wide, 2), places(wide, 0)]
[1, 4, 6, 0, (1, 2, 0), 2, None, (1, 2), (0, 2)]
>>> [beginnings(wide, (0,)), beginnings(wide, (0, 1)), beginnings(wide, (2,)), beginnings(wide, ())]
[2, 2, 0, 4]
"""

FOLLOWING = """
>>> from rankedrules.following import above, alike, judge, needless, reasons
>>> [judge(small, "+.-"), judge(wide, "+-."), judge(wide, "--+"), judge(wide, "..+"), above(small), above(wide)]
['sure', 'open', 'never', 'sure', ((0, 1), (0, 2), (1, 2)), ()]
>>> [reasons(wide, 2), reasons(small, 2), reasons(small, 0), alike(small, Book("cost near safe: +-- .+-")), needless(Book("cost near safe: +-. .+- +.-"))]
[((0, 1),), ((0,), (1,)), (), True, (2,)]
"""

CASES = """
>>> from rankedrules.cases import Case, against, barred, told_by, winners
>>> vans = Case("ann 0 2 1; bob 1 0 1; cid 1 1 0; dan 1 2 1")
>>> [vans.names, vans.marks[1], against(vans, "ann", "bob"), winners(vans, (0, 1, 2)), winners(vans, (2, 0, 1)), told_by(vans, "bob"), barred(vans)]
[('ann', 'bob', 'cid', 'dan'), (1, 0, 1), '+-.', ('ann',), ('cid',), ('-+.', '.+-', '.+.'), ('dan',)]
>>> [winners(Case("a 1 1; b 1 1"), (1, 0)), barred(Case("a 0 2; b 1 1; c 2 0"))]
[('a', 'b'), ('b',)]
"""

# Later examples use the names of earlier ones, so they all share one session.
SESSION = (BOOKS, LAYERS, RANKINGS, FOLLOWING, CASES)


class ExamplesTest(unittest.TestCase):

    def test_each_example_prints_what_the_interface_shows(self):
        names = {}
        for part in SESSION:
            for statement, printed in steps(part):
                with self.subTest(statement=statement):
                    self.assertEqual(take(statement, names), printed)

    def test_no_example_is_left_out(self):
        self.assertEqual([len(steps(part)) for part in SESSION], [4, 4, 3, 3, 4])


class StepsTest(unittest.TestCase):

    def test_a_printed_value_belongs_to_the_statement_above_it(self):
        self.assertEqual(steps(">>> x = 1\n>>> x\n1\n"), [("x = 1", None), ("x", "1")])

    def test_what_is_printed_is_told(self):
        names = {}
        self.assertIsNone(take("x = 'a'", names))
        self.assertEqual(take("x", names), "'a'")
        self.assertIsNone(take("None", names))
        self.assertEqual(take("1 // 0", names), "raises ZeroDivisionError()")


if __name__ == "__main__":
    unittest.main()
