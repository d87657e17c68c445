"""The form of the package: what stands in which file, and how long it is."""

import ast
import unittest
from pathlib import Path

ROOT = Path(__file__).resolve().parent.parent
PACKAGE = ROOT / "rankedrules"

DEFINED_IN = {
    "errors": (
        "WrongValue", "NoAnswer", "InvalidText", "InvalidNumber", "InvalidName", "InvalidIndex",
        "InvalidClaim", "InvalidRow", "InvalidRanking", "InvalidRule", "UnknownName", "NotABook",
        "NotACase", "NotACourt", "InvalidLot", "InvalidOffers", "InvalidCases", "NoRanking", "TooMany",
        "Broken", "InUse", "NothingToUndo",
    ),
    "books": ("Book", "opposite", "fusion"),
    "layers": ("holds", "fits", "layers", "left_over", "quarrel"),
    "rankings": ("how_many", "ranking_at", "number_of", "places", "beginnings"),
    "following": ("judge", "above", "reasons", "needless", "alike"),
    "cases": ("Case", "against", "winners", "told_by", "barred"),
    "judging": ("possible", "sure", "shares", "outcomes", "best_question"),
    "veils": ("Veil", "brightest", "darkest", "can_win", "must_win", "telling"),
    "doubts": ("struck", "fewest_wrong", "surely_wrong", "follows_with"),
    "courts": ("Court",),
    "desks": ("Desk",),
    "talks": ("answer", "talk"),
    "checker": ("accepts",),
    "certificates": (
        "certify_fits", "certify_judged", "certify_above", "certify_count", "certify_alike", "certify_candidate",
    ),
}


def sources():
    """The files of the package with their texts."""
    return {path: path.read_bytes().decode("ascii") for path in sorted(PACKAGE.glob("*.py"))}


class FormTest(unittest.TestCase):

    def test_the_package_holds_its_sources_alone(self):
        others = [path.name for path in PACKAGE.iterdir() if path.suffix != ".py"]
        self.assertEqual([name for name in others if name != "__pycache__"], [])
        self.assertTrue((PACKAGE / "__init__.py").is_file())

    def test_each_part_of_the_interface_is_defined_in_its_file(self):
        for module, names in DEFINED_IN.items():
            tree = ast.parse((PACKAGE / f"{module}.py").read_text())
            kinds = (ast.FunctionDef, ast.ClassDef)
            defined = [node.name for node in tree.body if isinstance(node, kinds)]
            with self.subTest(module=module):
                self.assertEqual([name for name in names if name not in defined], [])

    def test_sizes_and_characters(self):
        for path, text in sources().items():
            lines = text.split("\n")
            with self.subTest(path=path.name):
                self.assertLessEqual(len(lines), 399)
                self.assertLessEqual(max(len(line) for line in lines), 120)
                self.assertEqual([sign for sign in text if sign != "\n" and not " " <= sign <= "~"], [])

    def test_no_function_is_long(self):
        for path, text in sources().items():
            for node in ast.walk(ast.parse(text)):
                if isinstance(node, ast.FunctionDef):
                    with self.subTest(path=path.name, function=node.name):
                        self.assertLessEqual(node.end_lineno - node.lineno + 1, 40)

    def test_only_modules_of_the_package_are_imported(self):
        library = ("heapq", "math", "itertools", "__future__")
        for path, text in sources().items():
            for node in ast.walk(ast.parse(text)):
                with self.subTest(path=path.name):
                    self.assertNotIsInstance(node, ast.Import)
                    if isinstance(node, ast.ImportFrom):
                        known = node.module in library or node.module.startswith("rankedrules.")
                        self.assertTrue(known and node.level == 0, node.module)


if __name__ == "__main__":
    unittest.main()
