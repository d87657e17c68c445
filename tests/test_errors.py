"""The errors of the interface: their bases, their attributes, how they are made."""

import inspect
import unittest

from rankedrules import errors
from tests.values import OTHER_KINDS

WRONG_VALUES = {
    "InvalidText": ("given",), "InvalidNumber": ("given",), "InvalidName": ("given",),
    "InvalidIndex": ("given",), "InvalidClaim": ("given",), "InvalidRow": ("given",),
    "InvalidRanking": ("given",), "InvalidRule": ("given",), "UnknownName": ("given",),
    "NotABook": ("given",), "NotACase": ("given",), "NotACourt": ("given",),
    "InvalidLot": ("index",), "InvalidOffers": ("index",), "InvalidCases": ("index",),
}
NO_ANSWERS = {
    "NoRanking": (), "TooMany": ("number",), "Broken": ("index", "told"), "InUse": ("index",),
    "NothingToUndo": (),
}
ATTRIBUTES = {**WRONG_VALUES, **NO_ANSWERS}


class BasesTest(unittest.TestCase):

    def test_the_two_base_classes(self):
        self.assertEqual(errors.WrongValue.__bases__, (ValueError,))
        self.assertEqual(errors.NoAnswer.__bases__, (ArithmeticError,))

    def test_each_error_belongs_to_its_base_class_and_to_no_other_of_the_package(self):
        for listed, base in ((WRONG_VALUES, errors.WrongValue), (NO_ANSWERS, errors.NoAnswer)):
            for name in listed:
                with self.subTest(name=name):
                    made = getattr(errors, name)
                    own = [one for one in made.__mro__ if one.__module__.startswith("rankedrules")]
                    self.assertEqual(own, [made, base])

    def test_the_file_holds_these_errors_and_no_others(self):
        told = [name for name, value in vars(errors).items() if inspect.isclass(value)]
        self.assertEqual(sorted(told), sorted([*ATTRIBUTES, "WrongValue", "NoAnswer"]))


class AttributesTest(unittest.TestCase):

    def test_made_by_position(self):
        for name, attributes in ATTRIBUTES.items():
            for shift in range(len(OTHER_KINDS)):
                values = [OTHER_KINDS[shift - at] for at in range(len(attributes))]
                with self.subTest(name=name, shift=shift):
                    self.check(getattr(errors, name)(*values), attributes, values)

    def test_made_by_name(self):
        for name, attributes in ATTRIBUTES.items():
            for shift in range(len(OTHER_KINDS)):
                values = [OTHER_KINDS[shift - at] for at in range(len(attributes))]
                with self.subTest(name=name, shift=shift):
                    named = dict(reversed(list(zip(attributes, values))))
                    self.check(getattr(errors, name)(**named), attributes, values)

    def check(self, error, attributes, values):
        self.assertEqual(tuple(vars(error)), attributes)
        for attribute, value in zip(attributes, values):
            self.assertIs(getattr(error, attribute), value)

    def test_first_by_position_then_by_name(self):
        error = errors.Broken(3, told="open")
        self.assertEqual((error.index, error.told), (3, "open"))

    def test_an_error_is_true(self):
        for name, attributes in ATTRIBUTES.items():
            with self.subTest(name=name):
                self.assertTrue(getattr(errors, name)(*attributes))

    def test_an_error_can_be_raised_and_caught_by_its_base_class(self):
        with self.assertRaises(errors.WrongValue):
            raise errors.InvalidText("x")
        with self.assertRaises(errors.NoAnswer):
            raise errors.NoRanking()


if __name__ == "__main__":
    unittest.main()
