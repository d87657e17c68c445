"""The examples of the interface, as they are printed there."""

import unittest

from tests.examples import steps, take

BOOKS = """
>>> from rankedrules.books import Book, fusion, opposite
>>> small, wide, bad = Book("cost near safe: +-. .+-"), Book("cost near safe: ++-"), Book("cost near safe: +-. -+.")
>>> [small.names, small.rows, str(small.without(0)), str(wide.with_row(".+-")), opposite("+-."), fusion(small, (0, 1)), fusion(bad, (0, 1)), fusion(bad, ())]
[('cost', 'near', 'safe'), ('+-.', '.+-'), 'cost near safe: .+-', 'cost near safe: ++- .+-', '-+.', '+--', '--.', '...']
>>> Book("cost near: +-.")
raises InvalidText(given='cost near: +-.')
"""

# Later examples use the names of earlier ones, so they all share one session.
SESSION = (BOOKS,)


class ExamplesTest(unittest.TestCase):

    def test_each_example_prints_what_the_interface_shows(self):
        names = {}
        for part in SESSION:
            for statement, printed in steps(part):
                with self.subTest(statement=statement):
                    self.assertEqual(take(statement, names), printed)

    def test_no_example_is_left_out(self):
        self.assertEqual([len(steps(part)) for part in SESSION], [4])


class StepsTest(unittest.TestCase):

    def test_a_printed_value_belongs_to_the_statement_above_it(self):
        self.assertEqual(steps(">>> x = 1\n>>> x\n1\n"), [("x = 1", None), ("x", "1")])

    def test_what_is_printed_is_told(self):
        names = {}
        self.assertIsNone(take("x = 'a'", names))
        self.assertEqual(take("x", names), "'a'")
        self.assertIsNone(take("None", names))
        self.assertEqual(take("1 // 0", names), "raises ZeroDivisionError()")


if __name__ == "__main__":
    unittest.main()
