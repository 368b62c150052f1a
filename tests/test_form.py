"""The interface's names and arguments, and what the form of the code can be checked for by reading it."""

import ast
import builtins
import importlib
import inspect
import re
import unittest
from pathlib import Path

PACKAGE = Path(__file__).resolve().parent.parent / "signbook"
FILES = sorted(PACKAGE.rglob("*.py"))

INTERFACE = {
    "signbook.fractions": {
        "is_whole": "(thing)",
        "is_fraction": "(thing)",
        "fraction": "(top, bottom=1)",
        "plus": "(one, other)",
        "minus": "(one, other)",
        "times": "(one, other)",
        "divided": "(one, other)",
        "under": "(one, other)",
        "floor_of": "(value)",
        "ceiling_of": "(value)",
    },
    "signbook.tables": {
        "is_table": "(thing)",
        "is_plain": "(table)",
        "shape": "(table)",
        "turned": "(table)",
        "piece": "(table, rows, columns)",
        "signed_by": "(table, rows, columns)",
        "product": "(one, other)",
        "led": "(table, xs)",
        "determinant": "(table)",
        "rank": "(table)",
        "pivoted": "(table, row, column)",
    },
    "signbook.squares": {
        "bad_square": "(table)",
        "is_bad_square": "(table, thing)",
    },
    "signbook.signs": {
        "signs_for": "(table, rows)",
        "book": "(table)",
        "is_book": "(table, thing)",
        "is_unimodular": "(table)",
    },
    "signbook.programs": {
        "within": "(table, bounds, xs)",
        "is_answer": "(table, bounds, gains, answer)",
        "best": "(table, bounds, gains)",
        "priced": "(table, bounds, gains)",
        "corners": "(table, bounds)",
        "unwhole": "(table)",
    },
    "signbook.rounding": {
        "rounded": "(table, xs)",
        "unrounded": "(table)",
    },
    "signbook.parting": {
        "parted": "(table, bounds, xs, *, many)",
        "spread": "(table)",
        "halved": "(table, xs)",
    },
    "signbook.nets": {
        "net_table": "(ends, arcs)",
        "as_net": "(table)",
        "is_net": "(table, thing)",
    },
    "signbook.standing": {
        "together": "(table)",
        "is_together": "(table, order)",
    },
    "signbook.seven": {
        "signed": "(table)",
        "is_piece": "(table, thing)",
    },
    "signbook.sums": {
        "beside": "(one, other)",
        "two_sum": "(one, other)",
        "three_sum": "(one, other)",
        "parts": "(table)",
    },
    "signbook.packing": {
        "packed": "(table)",
        "bought": "(table, worths)",
        "paired": "(table)",
        "crossing": "(table)",
    },
    "signbook.texts": {
        "show_numbers": "(numbers)",
        "show_fractions": "(fractions)",
        "show_table": "(table)",
        "read_numbers": "(text)",
        "read_fractions": "(text)",
        "read_table": "(text)",
    },
}

LIBRARY = ("heapq", "math", "itertools", "collections")
BARRED_NAMES = "eval exec compile globals locals vars dir id hash input open print type filter round chr".split()
BARRED_WORDS = "enum Enum typing dataclass namedtuple Protocol Generic ABC abstractmethod overload".split()


def functions(tree):
    """Tell all functions and methods of a file."""
    return [node for node in ast.walk(tree) if isinstance(node, (ast.FunctionDef, ast.Lambda))]


class Interface(unittest.TestCase):
    def test_each_function_stands_in_its_file_with_its_arguments(self):
        for path, names in INTERFACE.items():
            module = importlib.import_module(path)
            for name, arguments in names.items():
                call = getattr(module, name)
                self.assertTrue(inspect.isfunction(call), name)
                self.assertEqual(call.__module__, path)
                self.assertEqual(str(inspect.signature(call)), arguments, name)


class Form(unittest.TestCase):
    def each(self):
        for path in FILES:
            text = path.read_text(encoding="utf-8")
            yield path.name, text, ast.parse(text)

    def test_the_folder_has_plain_files_alone(self):
        for path in PACKAGE.rglob("*"):
            if "__pycache__" not in path.parts:
                self.assertTrue(path.is_dir() or re.fullmatch(r"[a-z0-9_]+\.py", path.name), path)
        self.assertTrue((PACKAGE / "__init__.py").is_file())

    def test_sizes(self):
        for name, text, tree in self.each():
            self.assertLessEqual(len(text.splitlines()), 399, name)
            self.assertLessEqual(max(map(len, text.splitlines())), 120, name)
            for node in functions(tree):
                self.assertLessEqual(node.end_lineno - node.lineno + 1, 40, name)

    def test_characters(self):
        for name, text, _ in self.each():
            self.assertTrue(all(" " <= sign <= "~" or sign == "\n" for sign in text), name)

    def test_imports(self):
        for name, _, tree in self.each():
            for node in ast.walk(tree):
                self.assertNotIsInstance(node, ast.Import, name)
                if isinstance(node, ast.ImportFrom):
                    inside = node.module.startswith("signbook.")
                    self.assertTrue(inside or node.module in LIBRARY, name)
                    for imported in node.names:
                        self.assertIsNone(imported.asname)
                        self.assertNotEqual(imported.name, "*")

    def test_no_files_import_from_each_other_in_a_round(self):
        known = {}
        for name, _, tree in self.each():
            paths = {node.module for node in ast.walk(tree) if isinstance(node, ast.ImportFrom)}
            known["signbook." + name.removesuffix(".py")] = {path for path in paths if path.startswith("signbook.")}
        while known:
            first = [path for path, wanted in known.items() if not wanted & set(known)]
            self.assertTrue(first, known)
            known = {path: wanted for path, wanted in known.items() if path not in first}

    def test_no_name_has_another_meaning(self):
        for name, _, tree in self.each():
            taken = {imported.name for node in ast.walk(tree) if isinstance(node,
                ast.ImportFrom) for imported in node.names}
            taken |= {node.name for node in ast.walk(tree) if isinstance(node, (ast.FunctionDef, ast.ClassDef))}
            taken |= set(dir(builtins))
            for node in ast.walk(tree):
                if isinstance(node, ast.arg):
                    self.assertNotIn(node.arg, taken, name)
                if isinstance(node, ast.Name) and isinstance(node.ctx, ast.Store):
                    self.assertNotIn(node.id, taken, name)

    def test_no_generators_decorators_or_sets_that_are_gone_through(self):
        barred = (ast.GeneratorExp, ast.Yield, ast.YieldFrom, ast.Set, ast.NamedExpr, ast.Match)
        for name, _, tree in self.each():
            for node in ast.walk(tree):
                self.assertNotIsInstance(node, barred, name)
                if isinstance(node, (ast.FunctionDef, ast.ClassDef)):
                    self.assertEqual(node.decorator_list, [], name)
                if isinstance(node, ast.For):
                    self.assertNotIn("set(", ast.unparse(node.iter), name)

    def test_no_statement_or_value_outside_the_subset(self):
        barred = (ast.Global, ast.AsyncFunctionDef, ast.Await, ast.TryStar)
        for name, _, tree in self.each():
            for node in ast.walk(tree):
                self.assertNotIsInstance(node, barred, name)
                if isinstance(node, ast.BinOp):
                    self.assertNotIsInstance(node.op, (ast.Div, ast.MatMult), name)
                if isinstance(node, ast.Constant):
                    self.assertNotIsInstance(node.value, (float, complex), name)
                if isinstance(node, ast.Name):
                    self.assertNotIn(node.id, BARRED_NAMES, name)

    def test_no_barred_words(self):
        for name, text, _ in self.each():
            for word in BARRED_WORDS:
                self.assertIsNone(re.search(rf"\b{word}\b", text), (name, word))


if __name__ == "__main__":
    unittest.main()
