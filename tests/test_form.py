"""The form of the package's code, as far as it can be seen, and its interface."""

import ast
import builtins
import importlib
import inspect
import re
import unittest
from pathlib import Path

from form_rules import RULES, WRONG

TOP = Path(__file__).resolve().parent.parent
PACKAGE = TOP / "corepetals"

INTERFACE = {
    "corepetals.sets.texts": {"read_sets": 1, "sets_shown": 1, "names_of": 1, "link_of": 2, "without_row": 2},
    "corepetals.sets.flowers": {"core_of": 1, "petals_of": 1, "flower_shown": 3},
    "corepetals.found.way": {"flower_by_way": 2, "enough_sets": 2},
    "corepetals.found.exact": {"greatest_flower": 1, "count_flowers": 2, "count_with_core": 3, "most_apart": 1},
    "corepetals.most.without": {"most_without": 3},
    "corepetals.hit.thinned": {"least_row": 1, "thinned": 2},
    "corepetals.near.shares": {"share_taken": 2, "is_near": 4, "not_spread": 2},
    "corepetals.kept": {"KeptSets": 1},
    "corepetals.hit.least": {"least_rows": 1, "each_two_meet": 1, "is_full": 1},
    "corepetals.parted.across": {"go_across": 2, "across_sum": 2, "longest_across": 1},
    "corepetals.found.levels": {"next_level": 2, "levels_of": 3, "core_count": 3},
    "corepetals.words.rows": {"are_row": 1, "first_row": 2, "as_sets": 1, "most_words": 3},
    "corepetals.words.alike": {"meet_in": 1, "most_alike": 1, "surely_number": 1, "is_surely": 1},
    "corepetals.parted.flowers": {"fewest_parts": 1, "parting_shown": 2, "bound_below": 1},
    "corepetals.whole": {"Desk": 0},
}

# The methods of classes, each told with its own object counted.
CLASSES = {
    ("corepetals.kept", "KeptSets"): {"put_set": 2, "take_set": 2, "sets_now": 1, "has_flower": 1},
    ("corepetals.whole", "Desk"): {"ask": 2},
}

NODES = set("""Module FunctionDef ClassDef arguments arg Return Assign AugAssign If While For Break Continue
Pass Raise Try ExceptHandler Expr Assert Delete ImportFrom alias BoolOp BinOp UnaryOp Compare Call Attribute
Subscript Slice Name Constant List Tuple Dict Set ListComp DictComp SetComp comprehension IfExp Lambda
JoinedStr FormattedValue Starred keyword Load Store Del And Or Not USub UAdd Invert Add Sub Mult FloorDiv
Mod Pow LShift RShift BitAnd BitOr BitXor Eq NotEq Lt LtE Gt GtE Is IsNot In NotIn""".split())

OWN_NAMES = set("""len range enumerate zip min max sum abs sorted reversed int str bool bytes list tuple dict
set frozenset isinstance ord repr any all divmod Exception ValueError TypeError KeyError IndexError
LookupError ZeroDivisionError ArithmeticError OverflowError RuntimeError NotImplementedError AttributeError
StopIteration""".split())

METHODS = set("""append clear copy count endswith extend find get index insert isalnum isalpha isdigit islower
isspace isupper items join keys ljust lower lstrip partition pop remove replace reverse rfind rjust
rpartition rsplit rstrip setdefault split splitlines startswith strip update upper values zfill bit_length
title capitalize swapcase casefold center removeprefix removesuffix rindex isascii isdecimal
isnumeric add discard sort""".split())

# What a value of an object may not be called, for Python's own things have it.
NO_VALUES = {name for kind in (str, int, list, dict, set, bytes) for name in dir(kind)} - set(
    "count index title find get join lower upper split strip copy add".split())

DUNDERS = {"__init__", "__eq__", "__repr__", "__str__", "__len__"}

WORDS = re.compile(r"\b(type|typing|typing_extensions|enum|Enum|IntEnum|StrEnum|Flag|IntFlag|Generic|Protocol|ABC"
                   r"|ABCMeta|namedtuple|NamedTuple|TypedDict|TYPE_CHECKING|abstractmethod)\b"
                   r"|dataclass|overload|contextmanager")


def files():
    return sorted(path for path in PACKAGE.rglob("*") if path.is_file() and "__pycache__" not in path.parts)


def trees():
    for path in files():
        yield path.relative_to(TOP), ast.parse(path.read_text())


def nodes_of(kind):
    for path, tree in trees():
        for node in ast.walk(tree):
            if isinstance(node, kind):
                yield f"{path}:{getattr(node, 'lineno', 0)}", node


class Form(unittest.TestCase):
    def test_files(self):
        self.assertTrue(files())
        for path in files():
            self.assertRegex(path.name, r"^[a-z][a-z0-9_]*\.py$|^__init__\.py$")
            self.assertTrue((path.parent / "__init__.py").is_file(), path)
            self.assertFalse(path.with_suffix("").is_dir(), path)

    def test_signs_and_sizes(self):
        for path in files():
            text = path.read_bytes().decode("ascii")
            rows = text.split("\n")
            self.assertTrue(all(" " <= sign <= "~" or sign == "\n" for sign in text), path)
            self.assertLessEqual(len(rows), 400, path)
            self.assertLessEqual(max(map(len, rows)), 120, path)
            self.assertIsNone(WORDS.search(text), path)

    def test_functions_are_small(self):
        for where, node in nodes_of(ast.FunctionDef):
            self.assertLessEqual(node.end_lineno - node.lineno + 1, 40, where)
            self.assertFalse(node.decorator_list, where)
            self.assertFalse(node.args.vararg or node.args.kwarg or node.args.posonlyargs, where)

    def test_nodes(self):
        for where, node in nodes_of(ast.AST):
            self.assertIn(node.__class__.__name__, NODES, where)

    def test_values(self):
        for where, node in nodes_of(ast.Constant):
            self.assertIsInstance(node.value, (int, str, bytes, type(None)), where)
            if isinstance(node.value, str):
                self.assertNotIn("%", node.value, where)
        for where, node in nodes_of(ast.BinOp):
            if isinstance(node.op, ast.Pow):
                self.assertIsInstance(node.right, ast.Constant, where)

    def test_is_beside_written_values_alone(self):
        for where, node in nodes_of(ast.Compare):
            for sign, right in zip(node.ops, node.comparators):
                if isinstance(sign, (ast.Is, ast.IsNot)):
                    self.assertIsInstance(right, ast.Constant, where)
                    self.assertIn(right.value, (None, True, False), where)

    def test_imports(self):
        for where, node in nodes_of(ast.ImportFrom):
            self.assertEqual(0, node.level, where)
            self.assertTrue(node.module.startswith("corepetals."), where)
            defined = ast.parse((TOP / (node.module.replace(".", "/") + ".py")).read_text()).body
            names = {row.name for row in defined if isinstance(row, (ast.FunctionDef, ast.ClassDef))}
            names |= {row.targets[0].id for row in defined if isinstance(row, ast.Assign)}
            for drawn in node.names:
                self.assertIn(drawn.name, names, where)

    def test_names(self):
        for where, node in nodes_of((ast.Name, ast.arg, ast.FunctionDef, ast.ClassDef)):
            name = getattr(node, "id", None) or getattr(node, "arg", None) or node.name
            if isinstance(node, ast.FunctionDef) and name in DUNDERS:
                continue
            self.assertFalse(name.startswith("_"), where)
            if isinstance(node, ast.Name) and isinstance(node.ctx, ast.Load):
                if hasattr(builtins, name):
                    self.assertIn(name, OWN_NAMES, where)
            else:
                self.assertFalse(hasattr(builtins, name), where)

    def test_methods(self):
        own = {node.name for where, node in nodes_of(ast.FunctionDef)}
        for where, node in nodes_of(ast.Call):
            if isinstance(node.func, ast.Attribute):
                self.assertIn(node.func.attr, METHODS | own, where)

    def test_values_of_objects(self):
        methods = {row.name for where, node in nodes_of(ast.ClassDef) for row in node.body
                   if isinstance(row, ast.FunctionDef)}
        given = {node.attr for where, node in nodes_of(ast.Attribute) if isinstance(node.ctx, ast.Store)}
        self.assertEqual(set(), given & (methods | NO_VALUES))
        for path, tree in trees():
            called = {node.func for node in ast.walk(tree) if isinstance(node, ast.Call)}
            for node in ast.walk(tree):
                if isinstance(node, ast.Attribute) and node not in called:
                    self.assertIn(node.attr, given, f"{path}:{node.lineno}")

    def test_escapes(self):
        for path in files():
            text = path.read_text().replace("\\\\", "")
            self.assertIsNone(re.search(r"\\[^nt\"']", text), path)

    def test_no_two_files_draw_from_one_another(self):
        drawn = {}
        for path, tree in trees():
            rows = [row.module for row in tree.body if isinstance(row, ast.ImportFrom)]
            drawn[".".join(path.with_suffix("").parts)] = set(rows)
        # A file that draws from none but such as have gone goes, till all have gone.
        while drawn:
            free = [name for name, rows in drawn.items() if not rows & set(drawn)]
            self.assertTrue(free, drawn)
            for name in free:
                del drawn[name]

    def test_rules(self):
        for path, tree in trees():
            for rule in RULES:
                wrong = [f"{path}:{node.lineno} {rule.__name__}" for node in rule(tree)]
                self.assertEqual([], wrong)

    def test_rules_see_what_is_wrong(self):
        self.assertEqual(set(RULES), set(WRONG))
        for rule, texts in WRONG.items():
            for text in texts:
                self.assertTrue(list(rule(ast.parse(text))), (rule.__name__, text))


class Interface(unittest.TestCase):
    def test_names_and_places(self):
        for module, told in INTERFACE.items():
            self.has_all(importlib.import_module(module), told)

    def test_methods_of_classes(self):
        for (module, name), told in CLASSES.items():
            self.has_all(getattr(importlib.import_module(module), name), told)

    def has_all(self, there, told):
        for name, places in told.items():
            parameters = inspect.signature(getattr(there, name)).parameters.values()
            self.assertEqual(places, len(parameters), name)
            for parameter in parameters:
                self.assertEqual(parameter.POSITIONAL_OR_KEYWORD, parameter.kind, name)


if __name__ == "__main__":
    unittest.main()
