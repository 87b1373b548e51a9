"""Promise 1, by the look of the code: no clock, chance or files, nothing kept, and the part of Python that is used."""

import ast
import inspect
import pathlib
import re
import unittest

import tilefloor
from tests.helpers import FLOORS
from tilefloor import errors, floors, heights, laying, rings, texts, turns

FOLDER = pathlib.Path(tilefloor.__file__).parent
OWN_NAMES = set(
    "len range enumerate zip min max sum abs sorted reversed int str bool list tuple dict set frozenset isinstance "
    "ord repr any all divmod ValueError KeyError IndexError LookupError ZeroDivisionError".split()
)
METHODS = set(
    "append clear copy count endswith extend find get index insert isalnum isalpha isdigit islower isspace isupper "
    "items join keys ljust lower lstrip partition pop remove replace reverse rfind rjust rpartition rsplit rstrip "
    "setdefault split splitlines startswith strip update upper values zfill bit_length".split()
)
LEFT_OUT = (
    ast.With, ast.Match, ast.Delete, ast.Global, ast.Nonlocal, ast.Assert, ast.Yield, ast.YieldFrom, ast.Await,
    ast.AsyncFunctionDef, ast.AsyncFor, ast.AsyncWith, ast.SetComp, ast.DictComp, ast.GeneratorExp, ast.NamedExpr,
    ast.Starred, ast.Div, ast.MatMult, ast.AnnAssign, ast.Import,
)

WORDS_LEFT_OUT = (
    "type typing typing_extensions enum Enum IntEnum StrEnum Flag IntFlag Generic Protocol ABC ABCMeta namedtuple "
    "NamedTuple TypedDict TYPE_CHECKING abstractmethod"
).split()
INTERFACE = {
    floors: {"checked": "floor", "checked_laying": "floor laying", "is_plain": "floor"},
    laying: {"laid": "floor", "count": "floor", "all_layings": "floor", "fixed": "floor"},
    turns: {"turns": "laying", "turned": "laying square", "road": "floor one other"},
    heights: {"heights": "floor laying", "fewest_turns": "floor one other"},
    rings: {"rings": "one other", "laid_otherwise": "laying ring"},
    texts: {"shown": "laying", "read": "text"},
}


def sources():
    for path in sorted(FOLDER.rglob("*.py")):
        text = path.read_text(encoding="utf-8")
        yield path.name, text, ast.parse(text)


def bound_names(tree):
    names = set()
    for node in ast.walk(tree):
        if isinstance(node, (ast.FunctionDef, ast.ClassDef)):
            names.add(node.name)
        elif isinstance(node, ast.arg):
            names.add(node.arg)
        elif isinstance(node, ast.alias):
            names.add(node.name)
        elif isinstance(node, ast.Name) and isinstance(node.ctx, ast.Store):
            names.add(node.id)
    return names


class Code(unittest.TestCase):
    def test_the_modules_are_there(self):
        names = [name for name, text, tree in sources()]
        asked = "__init__ errors floors laying turns heights rings texts".split()
        self.assertTrue({name + ".py" for name in asked} <= set(names), names)

    def test_the_interface_has_its_names_and_arguments(self):
        for module, functions in INTERFACE.items():
            for name, arguments in functions.items():
                told = inspect.signature(getattr(module, name)).parameters.values()
                self.assertEqual([one.name for one in told], arguments.split(), name)
                self.assertTrue(all(one.default is one.empty for one in told), name)

    def test_nothing_but_sources_lies_in_the_package(self):
        for path in FOLDER.rglob("*"):
            if "__pycache__" not in path.parts:
                self.assertEqual(path.suffix, ".py", path)

    def test_only_own_modules_are_drawn_from(self):
        for name, text, tree in sources():
            for node in ast.walk(tree):
                if isinstance(node, ast.ImportFrom):
                    self.assertTrue(node.module.startswith("tilefloor."), (name, node.lineno))
                    self.assertEqual(node.level, 0, (name, node.lineno))

    def test_only_the_allowed_names_of_python(self):
        for name, text, tree in sources():
            known = bound_names(tree) | OWN_NAMES
            self.assertFalse(bound_names(tree) & OWN_NAMES, name)
            for node in ast.walk(tree):
                if isinstance(node, ast.Name):
                    self.assertIn(node.id, known, (name, node.lineno))
                elif isinstance(node, ast.Attribute):
                    self.assertIn(node.attr, METHODS, (name, node.lineno))

    def test_nothing_that_is_left_out(self):
        for name, text, tree in sources():
            for node in ast.walk(tree):
                self.assertNotIsInstance(node, LEFT_OUT, (name, getattr(node, "lineno", 0)))
                if isinstance(node, (ast.For, ast.While)):
                    self.assertEqual(node.orelse, [], (name, node.lineno))
                elif isinstance(node, ast.Assign):
                    self.assertEqual(len(node.targets), 1, (name, node.lineno))
                elif isinstance(node, ast.Constant):
                    self.assertIsInstance(node.value, (int, str, type(None)), (name, node.lineno))
                elif isinstance(node, (ast.FunctionDef, ast.ClassDef)):
                    self.assertEqual(node.decorator_list, [], (name, node.lineno))

    def test_sizes_and_signs(self):
        for name, text, tree in sources():
            self.assertLessEqual(len(text.split("\n")), 400, name)
            for line in text.split("\n"):
                self.assertLessEqual(len(line), 120, (name, line))
                self.assertTrue(all(" " <= sign <= "~" for sign in line), (name, line))
            for node in ast.walk(tree):
                if isinstance(node, ast.FunctionDef):
                    self.assertLessEqual(node.end_lineno - node.lineno + 1, 40, (name, node.name))


    def test_words_that_are_left_out(self):
        for name, text, tree in sources():
            self.assertFalse(set(re.findall(r"\w+", text)) & set(WORDS_LEFT_OUT), name)
            self.assertIsNone(re.search("dataclass|overload|contextmanager", text), name)

    def test_no_local_is_called_like_an_import_or_a_class(self):
        for name, text, tree in sources():
            drawn = {one.name for node in tree.body if isinstance(node, ast.ImportFrom) for one in node.names}
            drawn |= {node.name for node in tree.body if isinstance(node, ast.ClassDef)}
            for node in ast.walk(tree):
                if isinstance(node, ast.arg):
                    self.assertNotIn(node.arg, drawn, (name, node.lineno))
                elif isinstance(node, ast.Name) and isinstance(node.ctx, ast.Store):
                    self.assertNotIn(node.id, drawn, (name, node.lineno))

    def test_no_two_files_draw_from_one_another(self):
        draws = {}
        for name, text, tree in sources():
            module = "tilefloor." + name.removesuffix(".py")
            draws[module] = {node.module for node in tree.body if isinstance(node, ast.ImportFrom)}
        while draws:
            free = [name for name in draws if not draws[name] & set(draws)]
            self.assertTrue(free, draws)
            for name in free:
                draws.pop(name)


class Keeping(unittest.TestCase):
    def test_no_module_keeps_anything_of_a_call(self):
        def kept():
            return [
                {name: repr(value) for name, value in vars(module).items() if name != "__builtins__"}
                for module in (errors, *INTERFACE)
            ]

        before = kept()
        for floor in FLOORS.values():
            floors.checked(floor)
            laying.laid(floor)
            laying.fixed(floor)
            layings = laying.all_layings(floor) if laying.count(floor) <= 200 else []
            for one in layings[:20]:
                self.call_all(floor, one, layings[-1])
        self.assertEqual(kept(), before)

    def call_all(self, floor, one, other):
        floors.checked_laying(floor, one)
        turns.road(floor, one, other)
        for square in turns.turns(one):
            turns.turned(one, square)
        if floors.is_plain(floor):
            heights.heights(floor, one)
            heights.fewest_turns(floor, one, other)
        for ring in rings.rings(one, other):
            rings.laid_otherwise(one, ring)
        texts.read(texts.shown(one))


if __name__ == "__main__":
    unittest.main()
