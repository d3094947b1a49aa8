"""Tests of where things stand: the interface, the limits of the files, and the README."""

import ast
import builtins
import doctest
import importlib
import pathlib
import unittest

ROOT = pathlib.Path(__file__).resolve().parent.parent
FILES = sorted((ROOT / "everyfield").rglob("*.py"))

BUILTINS = [
    "len", "range", "enumerate", "zip", "min", "max", "sum", "abs", "sorted", "reversed", "int", "str", "bool", "list",
    "tuple", "dict", "set", "isinstance", "ord", "repr", "any", "all", "divmod", "map", "iter", "next", "super", "property",
    "staticmethod", "classmethod", "ValueError", "KeyError", "NotImplemented",
]

# For each file of the interface its functions, and its classes with their methods.
FUNCTIONS = {
    "whole": ["common", "combination", "is_prime", "prime_divisors", "checked", "is_zero"],
    "poly": ["in_char", "gcd_in", "divided_in", "roots_in", "resultant"],
    "diagonal": ["diagonal", "shown", "divisors", "undone"],
    "systems": [
        "rank", "rank_where", "solvable", "solution", "barring", "kernel", "invertible", "inverse", "solvable_by",
        "how_many_by",
    ],
    "matroids": [
        "independent", "bases", "circuits", "spanned", "exchange", "heaviest", "same_columns", "changes",
        "never_changes", "bad_square", "dual",
    ],
    "unknown": [
        "somewhere", "how_many_there", "fitting", "least_power", "same_fitting", "witness", "is_witness", "barring",
        "is_barring",
    ],
    "plane": ["cross", "dot", "volume", "normal", "points_of", "points_on"],
    "ruler": ["built"],
}
CLASSES = {
    "errors": {
        "FieldError": [], "BadNumber": [], "BadCharacteristic": [], "BadText": [], "BadRow": [], "UnlikeShapes": [],
        "NotSquare": [], "NoSolution": [], "NoInverse": [], "BadStep": [], "UnknownName": [], "NameTaken": [],
        "Contradiction": [], "NothingToUndo": [],
    },
    "chars": {
        "Chars": [
            "every", "none", "only", "but", "zero_of", "unit_of", "read", "least", "upto", "__init__",
            "__contains__", "__and__", "__or__", "__sub__", "__invert__", "__eq__", "__bool__", "__str__",
        ],
    },
    "poly": {
        "Poly": [
            "unknown", "whole", "read", "degree", "content", "primitive", "derivative", "__init__", "__add__", "__sub__",
            "__mul__", "__neg__", "__eq__", "__str__", "__call__",
        ],
    },
    "matrices": {
        "Matrix": [
            "unit", "diagonal", "read", "scaled", "transposed", "part", "beside", "determinant", "minors", "times",
            "__init__", "__add__", "__sub__", "__mul__", "__neg__", "__eq__", "__str__",
        ],
    },
    "many": {
        "Many": [
            "number", "unknown", "names", "degree", "content", "vanishing", "put", "value", "__add__", "__sub__",
            "__mul__", "__neg__", "__eq__", "__str__",
        ],
    },
    "plane": {
        "Point": ["whole", "loose", "line_to", "off", "possible", "seen", "__init__", "__eq__"],
        "Line": ["crossing", "possible", "seen", "__init__", "__eq__"],
    },
    "drawings": {
        "Drawing": ["names", "unknowns", "triple", "possible", "always", "holds", "breaking", "__init__"],
    },
    "ruler": {
        "Ruler": ["names", "as_fraction", "possible", "same", "value", "shown", "__init__"],
    },
    "reports": {
        "Book": ["tell", "take_back", "fits", "reports", "named", "verdict", "needless", "best", "__init__"],
    },
    "studio": {
        "Studio": ["add", "see", "undo", "fits", "asks", "text", "seen", "__init__"],
    },
}


class TestInterface(unittest.TestCase):
    def test_functions_are_defined_in_their_files(self):
        for module, names in FUNCTIONS.items():
            home = f"everyfield.{module}"
            for name in names:
                self.assertEqual(getattr(importlib.import_module(home), name).__module__, home, name)

    def test_classes_define_their_methods_in_their_files(self):
        for module, classes in CLASSES.items():
            home = f"everyfield.{module}"
            for name, methods in classes.items():
                found = getattr(importlib.import_module(home), name)
                self.assertEqual(found.__module__, home, name)
                self.assertEqual([method for method in methods if method not in vars(found)], [], name)


class TestFiles(unittest.TestCase):
    def test_the_package_holds_python_files_alone(self):
        others = [path for path in (ROOT / "everyfield").rglob("*")
                  if path.is_file() and path.suffix != ".py" and path.parent.name != "__pycache__"]
        self.assertEqual(others, [])

    def test_lines_and_characters(self):
        for path in FILES:
            lines = path.read_text(encoding="utf-8").splitlines()
            self.assertLessEqual(len(lines), 399, path)
            for number, line in enumerate(lines, start=1):
                self.assertLessEqual(len(line), 120, (path, number))
                self.assertEqual([sign for sign in line if not " " <= sign <= "~"], [], (path, number))

    def test_functions_are_short(self):
        for path in FILES:
            for node in ast.walk(ast.parse(path.read_text(encoding="utf-8"))):
                if isinstance(node, ast.FunctionDef):
                    self.assertLessEqual(node.end_lineno - node.lineno + 1, 40, (path, node.name))

    def test_nothing_is_imported_from_elsewhere(self):
        for path in FILES:
            for node in ast.walk(ast.parse(path.read_text(encoding="utf-8"))):
                self.assertNotIsInstance(node, ast.Import, path)
                if isinstance(node, ast.ImportFrom):
                    home = node.module.split(".")[0]
                    self.assertIn(home, ["everyfield", "math", "heapq", "itertools", "__future__"], path)

    def test_only_the_builtins_of_the_language(self):
        known = vars(builtins)
        for path in FILES:
            for node in ast.walk(ast.parse(path.read_text(encoding="utf-8"))):
                if isinstance(node, ast.Name) and node.id in known:
                    self.assertIn(node.id, BUILTINS, (path, node.lineno))


class TestReadme(unittest.TestCase):
    def test_its_examples(self):
        failed, tried = doctest.testfile(str(ROOT / "README.md"), module_relative=False)
        self.assertEqual(failed, 0)
        self.assertGreater(tried, 0)


if __name__ == "__main__":
    unittest.main()
