"""The interface as DOC.md lists it, and the plainest rules of LANGUAGE.md for the files of the package."""

import ast
import builtins
import inspect
import os
import unittest

from soldrises import dealings, desk, errors, markets, rests, rounds, runs, seen, stalls, starts, texts

HERE = os.path.dirname(os.path.abspath(__file__))
PACKAGE = os.path.join(os.path.dirname(HERE), "soldrises")
LIBRARY = ("math", "heapq", "itertools", "collections")
LISTED = {
    markets: {
        "is_market": "(thing)", "sums": "(market)", "shares": "(market)",
        "take_of": "(market, prices, *, day=0)", "prices_behind": "(market, prices, *, day=0)",
    },
    runs: {"takes": "(market, days)", "prices_at": "(market, days)", "sold": "(market, days)"},
    stalls: {"Stall": "(market)"},
    rests: {
        "prices_by": "(market, days, sales)", "rests_at": "(market, days)", "sales_to": "(market, days, prices)",
    },
    starts: {
        "are_of_one_rest": "(market, one, other)", "stand_in_order": "(market, one, other)",
        "how_far": "(market, one, other)", "meets": "(market, one, other, *, day=0, bound=400)",
        "between": "(market, one, other)",
    },
    dealings: {
        "needs": "(market, goods)", "has": "(market, goods)", "verdict": "(market)",
        "does_hold": "(market, dealing)", "does_fall": "(market, goods)",
    },
    rounds: {
        "round_of": "(market)", "sold_in_round": "(market)", "far_prices": "(market, days)",
        "far_take": "(market, day)", "ever": "(market)", "receipts": "(market)", "first_unlike": "(market, other)",
    },
    seen: {"worths_let": "(goods, length, row)", "lets_be": "(goods, worths, row)"},
    texts: {"show_market": "(market)", "read_market": "(text)"},
    desk: {"Desk": "()"},
}
LISTED_METHODS = {
    stalls.Stall: {
        "tick": "(self)", "tell": "(self, buyer)", "step": "(self, good, up, down)", "day": "(self)",
        "prices": "(self)", "sold": "(self)", "log": "(self)",
    },
    desk.Desk: {"names": "(self)", "say": "(self, row)"},
}
# Of Python's own names, those that rule L8 lets the package use (and only call).
BUILTINS = (
    "len", "range", "enumerate", "zip", "min", "max", "sum", "abs", "sorted", "reversed", "int", "str", "bool", "list",
    "tuple", "dict", "set", "isinstance", "ord", "repr", "any", "all", "divmod", "map", "iter", "next", "ValueError",
)


def files_of_package():
    """The names and texts of all files of the package."""
    told = []
    for name in sorted(os.listdir(PACKAGE)):
        if name != "__pycache__":
            with open(os.path.join(PACKAGE, name), encoding="utf-8") as file:
                told.append((name, file.read()))
    return told


class InterfaceTest(unittest.TestCase):
    def test_names_and_arguments(self):
        for module, functions in LISTED.items():
            for name, arguments in functions.items():
                self.assertEqual(str(inspect.signature(getattr(module, name))), arguments, name)

    def test_methods_stand_in_the_class_itself(self):
        for listed, methods in LISTED_METHODS.items():
            for name, arguments in methods.items():
                self.assertEqual(str(inspect.signature(listed.__dict__[name])), arguments, name)

    def test_each_is_defined_where_it_is_listed(self):
        for module, functions in LISTED.items():
            for name in functions:
                self.assertEqual(getattr(module, name).__module__, module.__name__, name)
        for name, thing in vars(errors).items():
            if isinstance(thing, type):
                self.assertEqual(thing.__module__, "soldrises.errors", name)


class FilesTest(unittest.TestCase):
    def test_only_python_files(self):
        names = [name for name, _ in files_of_package()]
        self.assertIn("__init__.py", names)
        self.assertEqual([name for name in names if not name.endswith(".py") or name != name.lower()], [])
        listed = [module.__name__.split(".")[1] + ".py" for module in LISTED]
        self.assertEqual(sorted(listed + ["__init__.py", "errors.py"]), names)

    def test_no_two_files_import_from_each_other(self):
        imports = {}
        for name, text in files_of_package():
            imports["soldrises." + name[:-3]] = {node.module for node in ast.walk(ast.parse(text))
                                                 if isinstance(node, ast.ImportFrom)}
        while imports:
            free = [name for name, others in imports.items() if not others & set(imports)]
            self.assertNotEqual(free, [], sorted(imports))
            for name in free:
                del imports[name]

    def test_each_name_is_imported_from_where_it_is_defined_and_used(self):
        defined = {}
        for name, text in files_of_package():
            body = ast.parse(text).body
            defined["soldrises." + name[:-3]] = {node.name for node in body if hasattr(node, "name")} | {
                target.id for node in body if isinstance(node, ast.Assign) for target in node.targets}
        for name, text in files_of_package():
            nodes = list(ast.walk(ast.parse(text)))
            read = {node.id for node in nodes if isinstance(node, ast.Name) and isinstance(node.ctx, ast.Load)}
            for node in nodes:
                if isinstance(node, ast.ImportFrom):
                    told = {alias.name for alias in node.names}
                    self.assertEqual(told - read, set(), name)
                    self.assertEqual([alias.asname for alias in node.names if alias.asname], [], name)
                    if node.module not in LIBRARY:
                        self.assertEqual(told - defined[node.module], set(), name)

    def test_sizes_and_signs(self):
        for name, text in files_of_package():
            rows = text.split("\n")
            self.assertLessEqual(len(rows), 399, name)
            self.assertLessEqual(max(len(row) for row in rows), 120, name)
            self.assertEqual([sign for sign in text if sign != "\n" and not " " <= sign <= "~"], [], name)

    def test_functions_are_small(self):
        for name, text in files_of_package():
            for node in ast.walk(ast.parse(text)):
                if isinstance(node, ast.FunctionDef):
                    self.assertLessEqual(node.end_lineno - node.lineno + 1, 40, (name, node.name))

    def test_imports(self):
        for name, text in files_of_package():
            for node in ast.walk(ast.parse(text)):
                self.assertNotIsInstance(node, ast.Import, name)
                if isinstance(node, ast.ImportFrom) and node.module not in LIBRARY:
                    self.assertEqual((node.level, node.module.split(".")[0]), (0, "soldrises"), name)
                    self.assertNotIn("*", [alias.name for alias in node.names], name)

    def test_what_stands_at_module_level(self):
        plain = (ast.ImportFrom, ast.FunctionDef, ast.ClassDef)
        for name, text in files_of_package():
            for at, node in enumerate(ast.parse(text).body):
                if at == 0:
                    self.assertIsInstance(node.value.value, str, name)
                elif isinstance(node, ast.Assign):
                    self.assertIsInstance(node.value, ast.Constant, name)
                else:
                    self.assertIsInstance(node, plain, name)

    def test_names(self):
        for name, text in files_of_package():
            nodes = list(ast.walk(ast.parse(text)))
            taken = {alias.name for node in nodes if isinstance(node, ast.ImportFrom) for alias in node.names}
            taken |= {node.name for node in nodes if isinstance(node, ast.ClassDef)}
            assigned = {node.id for node in nodes if isinstance(node, ast.Name) and isinstance(node.ctx, ast.Store)}
            assigned |= {node.arg for node in nodes if isinstance(node, ast.arg)}
            self.assertEqual(assigned & taken, set(), name)
            functions = {node.name for node in nodes if isinstance(node, ast.FunctionDef)}
            self.assertEqual((assigned | functions | taken) & set(dir(builtins)) - {"__init__"}, set(), name)

    def test_what_is_pythons_own(self):
        for name, text in files_of_package():
            read = {node.id for node in ast.walk(ast.parse(text))
                    if isinstance(node, ast.Name) and isinstance(node.ctx, ast.Load)}
            self.assertEqual(read & set(dir(builtins)) - set(BUILTINS), set(), name)

    def test_no_decorators(self):
        for name, text in files_of_package():
            for node in ast.walk(ast.parse(text)):
                self.assertEqual(getattr(node, "decorator_list", []), [], name)

    def test_no_division_but_of_whole_numbers(self):
        barred = (ast.AsyncFunctionDef, ast.Await, ast.Div)
        for name, text in files_of_package():
            for node in ast.walk(ast.parse(text)):
                self.assertNotIsInstance(node, barred, name)
                if isinstance(node, ast.Constant):
                    self.assertNotIsInstance(node.value, (float, complex), name)


if __name__ == "__main__":
    unittest.main()
