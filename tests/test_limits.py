"""The limits of the interface."""

import unittest

from rankedrules import limits


class LimitsTest(unittest.TestCase):

    def test_each_limit_has_its_number(self):
        expected = {
            "MOST_RULES": 8, "MOST_ROWS": 20, "MOST_CANDIDATES": 8, "MOST_MARKS": 99,
            "MOST_STRUCK": 10, "MOST_OFFERS": 8, "MOST_CASES": 4,
        }
        for name, number in expected.items():
            with self.subTest(name=name):
                self.assertEqual(getattr(limits, name), number)
                self.assertIs(getattr(limits, name).__class__, int)


if __name__ == "__main__":
    unittest.main()
