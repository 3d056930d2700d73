"""The interface as DOC.md lists it, and the plainest rules of LANGUAGE.md for the files of the package."""

import ast
import inspect
import os
import unittest

from soldrises import errors, markets, runs

HERE = os.path.dirname(os.path.abspath(__file__))
PACKAGE = os.path.join(os.path.dirname(HERE), "soldrises")
LIBRARY = ("math", "heapq", "itertools", "collections")
LISTED = {
    markets: {
        "is_market": "(thing)", "sums": "(market)", "shares": "(market)",
        "take_of": "(market, prices, *, day=0)", "prices_behind": "(market, prices, *, day=0)",
    },
    runs: {"takes": "(market, days)", "prices_at": "(market, days)", "sold": "(market, days)"},
}


def files_of_package():
    """The names and texts of all files of the package."""
    told = []
    for name in sorted(os.listdir(PACKAGE)):
        if name != "__pycache__":
            with open(os.path.join(PACKAGE, name), encoding="utf-8") as file:
                told.append((name, file.read()))
    return told


class InterfaceTest(unittest.TestCase):
    def test_names_and_arguments(self):
        for module, functions in LISTED.items():
            for name, arguments in functions.items():
                self.assertEqual(str(inspect.signature(getattr(module, name))), arguments, name)

    def test_each_is_defined_where_it_is_listed(self):
        for module, functions in LISTED.items():
            for name in functions:
                self.assertEqual(getattr(module, name).__module__, module.__name__, name)
        for name, thing in vars(errors).items():
            if isinstance(thing, type):
                self.assertEqual(thing.__module__, "soldrises.errors", name)


class FilesTest(unittest.TestCase):
    def test_only_python_files(self):
        names = [name for name, _ in files_of_package()]
        self.assertIn("__init__.py", names)
        self.assertEqual([name for name in names if not name.endswith(".py") or name != name.lower()], [])

    def test_sizes_and_signs(self):
        for name, text in files_of_package():
            rows = text.split("\n")
            self.assertLessEqual(len(rows), 399, name)
            self.assertLessEqual(max(len(row) for row in rows), 120, name)
            self.assertEqual([sign for sign in text if sign != "\n" and not " " <= sign <= "~"], [], name)

    def test_functions_are_small(self):
        for name, text in files_of_package():
            for node in ast.walk(ast.parse(text)):
                if isinstance(node, ast.FunctionDef):
                    self.assertLessEqual(node.end_lineno - node.lineno + 1, 40, (name, node.name))

    def test_imports(self):
        for name, text in files_of_package():
            for node in ast.walk(ast.parse(text)):
                self.assertNotIsInstance(node, ast.Import, name)
                if isinstance(node, ast.ImportFrom) and node.module not in LIBRARY:
                    self.assertEqual((node.level, node.module.split(".")[0]), (0, "soldrises"), name)
                    self.assertNotIn("*", [alias.name for alias in node.names], name)

    def test_no_division_but_of_whole_numbers(self):
        barred = (ast.AsyncFunctionDef, ast.Await, ast.Div)
        for name, text in files_of_package():
            for node in ast.walk(ast.parse(text)):
                self.assertNotIsInstance(node, barred, name)
                if isinstance(node, ast.Constant):
                    self.assertNotIsInstance(node.value, (float, complex), name)


if __name__ == "__main__":
    unittest.main()
