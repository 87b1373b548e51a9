"""Promise 1, by the look of the code: no clock, chance or files, nothing kept, and the part of Python that is used."""

import ast
import pathlib
import unittest

import tilefloor
from tests.helpers import FLOORS
from tilefloor import errors, floors, laying

FOLDER = pathlib.Path(tilefloor.__file__).parent
OWN_NAMES = set(
    "len range enumerate zip min max sum abs sorted reversed int str bool list tuple dict set frozenset isinstance "
    "ord repr any all divmod ValueError KeyError IndexError LookupError ZeroDivisionError".split()
)
METHODS = set(
    "append clear copy count endswith extend find get index insert isalnum isalpha isdigit islower isspace isupper "
    "items join keys ljust lower lstrip partition pop remove replace reverse rfind rjust rpartition rsplit rstrip "
    "setdefault split splitlines startswith strip update upper values zfill bit_length".split()
)
LEFT_OUT = (
    ast.With, ast.Match, ast.Delete, ast.Global, ast.Nonlocal, ast.Assert, ast.Yield, ast.YieldFrom, ast.Await,
    ast.AsyncFunctionDef, ast.AsyncFor, ast.AsyncWith, ast.SetComp, ast.DictComp, ast.GeneratorExp, ast.NamedExpr,
    ast.Starred, ast.Div, ast.MatMult, ast.AnnAssign, ast.Import,
)


def sources():
    for path in sorted(FOLDER.rglob("*.py")):
        text = path.read_text(encoding="utf-8")
        yield path.name, text, ast.parse(text)


def bound_names(tree):
    names = set()
    for node in ast.walk(tree):
        if isinstance(node, (ast.FunctionDef, ast.ClassDef)):
            names.add(node.name)
        elif isinstance(node, ast.arg):
            names.add(node.arg)
        elif isinstance(node, ast.alias):
            names.add(node.name)
        elif isinstance(node, ast.Name) and isinstance(node.ctx, ast.Store):
            names.add(node.id)
    return names


class Code(unittest.TestCase):
    def test_the_modules_are_there(self):
        names = [name for name, text, tree in sources()]
        self.assertTrue({"__init__.py", "errors.py", "floors.py", "laying.py"} <= set(names), names)

    def test_only_own_modules_are_drawn_from(self):
        for name, text, tree in sources():
            for node in ast.walk(tree):
                if isinstance(node, ast.ImportFrom):
                    self.assertTrue(node.module.startswith("tilefloor."), (name, node.lineno))
                    self.assertEqual(node.level, 0, (name, node.lineno))

    def test_only_the_allowed_names_of_python(self):
        for name, text, tree in sources():
            known = bound_names(tree) | OWN_NAMES
            self.assertFalse(bound_names(tree) & OWN_NAMES, name)
            for node in ast.walk(tree):
                if isinstance(node, ast.Name):
                    self.assertIn(node.id, known, (name, node.lineno))
                elif isinstance(node, ast.Attribute):
                    self.assertIn(node.attr, METHODS, (name, node.lineno))

    def test_nothing_that_is_left_out(self):
        for name, text, tree in sources():
            for node in ast.walk(tree):
                self.assertNotIsInstance(node, LEFT_OUT, (name, getattr(node, "lineno", 0)))
                if isinstance(node, (ast.For, ast.While)):
                    self.assertEqual(node.orelse, [], (name, node.lineno))
                elif isinstance(node, ast.Assign):
                    self.assertEqual(len(node.targets), 1, (name, node.lineno))
                elif isinstance(node, ast.Constant):
                    self.assertIsInstance(node.value, (int, str, type(None)), (name, node.lineno))
                elif isinstance(node, (ast.FunctionDef, ast.ClassDef)):
                    self.assertEqual(node.decorator_list, [], (name, node.lineno))

    def test_sizes_and_signs(self):
        for name, text, tree in sources():
            self.assertLessEqual(len(text.split("\n")), 400, name)
            for line in text.split("\n"):
                self.assertLessEqual(len(line), 120, (name, line))
                self.assertTrue(all(" " <= sign <= "~" for sign in line), (name, line))
            for node in ast.walk(tree):
                if isinstance(node, ast.FunctionDef):
                    self.assertLessEqual(node.end_lineno - node.lineno + 1, 40, (name, node.name))


class Keeping(unittest.TestCase):
    def test_no_module_keeps_anything_of_a_call(self):
        def kept():
            return [
                {name: repr(value) for name, value in vars(module).items() if name != "__builtins__"}
                for module in (errors, floors, laying)
            ]

        before = kept()
        for floor in FLOORS.values():
            floors.checked(floor)
            floors.is_plain(floor)
            laying.laid(floor)
            laying.fixed(floor)
            for one in laying.all_layings(floor) if laying.count(floor) <= 200 else []:
                floors.checked_laying(floor, one)
        self.assertEqual(kept(), before)


if __name__ == "__main__":
    unittest.main()
