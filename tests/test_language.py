"""The package's files keep to the small part of Python that they are to be written in."""

import ast
import builtins
import re
import unittest
from pathlib import Path

PACKAGE = Path(__file__).resolve().parent.parent / "bandwright"
OWN_NAMES = set("""len range enumerate zip min max sum abs sorted reversed int str bool list tuple dict set frozenset
isinstance ord repr any all divmod Exception ValueError TypeError KeyError IndexError LookupError ZeroDivisionError
ArithmeticError OverflowError RuntimeError NotImplementedError AttributeError StopIteration""".split())
NODES = set("""Module Expr Constant ImportFrom alias FunctionDef arguments arg Lambda ClassDef Assign AugAssign If While
For Return Break Continue Pass Raise Try ExceptHandler Call keyword Name Attribute Subscript Slice List Tuple Dict Set ListComp
comprehension IfExp BinOp UnaryOp BoolOp Compare JoinedStr FormattedValue Load Store Add Sub Mult FloorDiv Mod Pow
BitAnd BitOr BitXor LShift RShift Invert USub UAdd Not And Or Eq NotEq Lt LtE Gt GtE Is IsNot In NotIn""".split())
METHODS = set("""append clear copy count endswith extend find get index insert isalnum isalpha isdigit islower isspace
isupper items join keys ljust lower lstrip partition pop remove replace reverse rfind rjust rpartition rsplit rstrip
setdefault split splitlines startswith strip update upper values zfill bit_length""".split())
WORDS = re.compile(r"\b(type|typing|typing_extensions|enum|Enum|IntEnum|StrEnum|Flag|IntFlag|Generic|Protocol|ABC|"
                   r"ABCMeta|namedtuple|NamedTuple|TypedDict|TYPE_CHECKING|abstractmethod)\b|"
                   r"dataclass|overload|contextmanager")
KEYWORDS = {"sorted": ("key", "reverse"), "min": ("key", "default"), "max": ("key", "default"), "sum": ("start",),
            "enumerate": ("start",), "zip": ("strict",)}
WALKED = ("zip", "enumerate", "reversed", "range")
WALKED_METHODS = ("items", "keys", "values")
WALKERS = ("list", "tuple", "dict", "sorted", "sum", "any", "all", "enumerate", "zip", "min", "max")
CHANGES = ("append", "clear", "extend", "insert", "pop", "remove", "reverse", "setdefault", "update")
FOREIGN = {name for kind in (str, int, list, dict, set, bytes, tuple) for name in vars(kind)} - METHODS


def files():
    return sorted(path for path in PACKAGE.rglob("*") if "__pycache__" not in path.parts)


def trees():
    return {path.stem: ast.parse(path.read_text("utf-8")) for path in files()}


def bound(tree):
    """The names that a file's own rows bind, wherever they stand."""
    names = [node.id for node in ast.walk(tree) if isinstance(node, ast.Name) and isinstance(node.ctx, ast.Store)]
    names += [node.arg for node in ast.walk(tree) if isinstance(node, ast.arg)]
    return names + [node.name for node in ast.walk(tree) if isinstance(node, (ast.FunctionDef, ast.ClassDef))]


def defined(tree):
    names = [node.name for node in tree.body if isinstance(node, (ast.FunctionDef, ast.ClassDef))]
    return names + [node.targets[0].id for node in tree.body if isinstance(node, ast.Assign)]


def called(node):
    """The name that a call stands by, or None."""
    return node.func.id if isinstance(node, ast.Call) and isinstance(node.func, ast.Name) else None


def method(node):
    return node.func.attr if isinstance(node, ast.Call) and isinstance(node.func, ast.Attribute) else None


def names_in(node):
    return {each.id for each in ast.walk(node) if isinstance(each, ast.Name)}


def changed_in(rows):
    """The names whose things some rows change in place."""
    found = set()
    for node in [each for row in rows for each in ast.walk(row)]:
        if isinstance(node, (ast.Subscript, ast.Attribute)) and isinstance(node.ctx, ast.Store):
            found |= names_in(node.value)
        if method(node) in CHANGES:
            found |= names_in(node.func.value)
    return found


def with_parents(tree):
    return [(child, parent) for parent in ast.walk(tree) for child in ast.iter_child_nodes(parent)]


class Language(unittest.TestCase):
    def test_keywords(self):
        for name, tree in trees().items():
            for node in ast.walk(tree):
                if isinstance(node, ast.Call):
                    for each in node.keywords:
                        self.assertIn(each.arg, KEYWORDS.get(called(node), ()), (name, node.lineno))
                        if each.arg in ("reverse", "strict"):
                            self.assertIsInstance(each.value, ast.Constant)

    def test_is_stands_beside_none_true_and_false(self):
        for name, tree in trees().items():
            for node in ast.walk(tree):
                if isinstance(node, ast.Compare) and any(isinstance(each, (ast.Is, ast.IsNot)) for each in node.ops):
                    self.assertIsInstance(node.comparators[0], ast.Constant, (name, node.lineno))

    def test_powers_and_texts(self):
        for name, tree in trees().items():
            for node in ast.walk(tree):
                if isinstance(node, ast.BinOp) and isinstance(node.op, ast.Pow):
                    self.assertIsInstance(node.right, ast.Constant, (name, node.lineno))
                if isinstance(node, ast.Constant) and isinstance(node.value, str):
                    self.assertNotIn("%", node.value, (name, node.lineno))

    def test_walked_at_once(self):
        for name, tree in trees().items():
            for node, parent in with_parents(tree):
                if called(node) in WALKED or method(node) in WALKED_METHODS:
                    walked = isinstance(parent, (ast.For, ast.comprehension)) and parent.iter is node
                    self.assertTrue(walked or called(parent) in WALKERS, (name, node.lineno))
                if called(node) in ("set", "frozenset"):
                    self.assertTrue(isinstance(parent, ast.Compare) or called(parent) in ("sorted", "len"))

    def test_what_a_loop_walks_is_not_changed_in_it(self):
        for name, tree in trees().items():
            for node in ast.walk(tree):
                if isinstance(node, ast.For):
                    within = [each for each in ast.walk(node.iter) if called(each) not in WALKERS]
                    walked = {each.id for each in within if isinstance(each, ast.Name)}
                    self.assertFalse(walked & changed_in(node.body), (name, node.lineno))

    def test_names_of_a_file_are_bound_once_and_hold_no_lists(self):
        for name, tree in trees().items():
            own = defined(tree) + [each.name for row in tree.body if isinstance(row, ast.ImportFrom) for each in row.names]
            self.assertEqual(len(own), len(set(own)), name)
            for row in tree.body:
                if isinstance(row, ast.Assign):
                    self.assertIsInstance(row.value, (ast.Constant, ast.Tuple), (name, row.lineno))

    def test_files_and_signs(self):
        self.assertIn(PACKAGE / "__init__.py", files())
        for path in files():
            self.assertRegex(path.name, r"\A([a-z][a-z0-9_]*|__init__)\.py\Z")
            self.assertNotIn(path.stem, dir(builtins))
            text = path.read_text("utf-8")
            self.assertRegex(text, r"\A[ -~\n]*\Z", path)
            self.assertIsNone(WORDS.search(text), path)
            self.assertLessEqual(len(text.splitlines()), 400, path)
            self.assertLessEqual(max(len(line) for line in text.splitlines()), 120, path)

    def test_only_plain_parts_of_the_language(self):
        for name, tree in trees().items():
            for node in ast.walk(tree):
                kind = node.__class__.__name__
                if kind not in ("operator", "expr_context"):
                    self.assertIn(kind, NODES, (name, getattr(node, "lineno", None)))
                if isinstance(node, ast.FunctionDef):
                    self.assertLessEqual(node.end_lineno - node.lineno + 1, 40, (name, node.name))
                    self.assertFalse(node.decorator_list or node.args.vararg or node.args.kwarg or node.args.kwonlyargs)
                if isinstance(node, ast.Assign):
                    self.assertEqual(len(node.targets), 1, (name, node.lineno))
                if isinstance(node, ast.ListComp):
                    self.assertEqual(len(node.generators), 1, (name, node.lineno))
                if isinstance(node, ast.Constant):
                    self.assertIn(node.value.__class__, (int, str, bool, None.__class__), (name, node.lineno))

    def test_classes(self):
        methods, values = set(), set()
        for name, tree in trees().items():
            self.assertEqual(sum(isinstance(node, ast.ClassDef) for node in ast.walk(tree)),
                             sum(isinstance(node, ast.ClassDef) for node in tree.body), name)
            for node in tree.body:
                if isinstance(node, ast.ClassDef):
                    rows = [row for row in node.body if not isinstance(row, ast.Pass)]
                    self.assertTrue(all(isinstance(row, ast.FunctionDef) for row in rows), (name, node.name))
                    self.assertEqual(len({row.name for row in rows}), len(rows), (name, node.name))
                    self.assertFalse(node.decorator_list or node.keywords or len(node.bases) > 1, (name, node.name))
                    methods |= {row.name for row in rows}
            for node in ast.walk(tree):
                if isinstance(node, ast.Attribute) and isinstance(node.ctx, ast.Store):
                    self.assertEqual((node.value.__class__, node.value.id), (ast.Name, "self"), (name, node.lineno))
                    values.add(node.attr)
        self.assertFalse(methods & values)

    def test_loops_refusals_and_kinds(self):
        kinds = {"int", "str", "bool", "list", "tuple", "dict"}
        for name, tree in trees().items():
            for node in ast.walk(tree):
                place = (name, getattr(node, "lineno", None))
                if isinstance(node, (ast.For, ast.While)):
                    self.assertFalse(node.orelse, place)
                if isinstance(node, ast.Raise):
                    self.assertIsInstance(node.exc, ast.Call, place)
                if isinstance(node, ast.arg):
                    self.assertIsNone(node.annotation, place)
                if called(node) == "isinstance":
                    self.assertLessEqual(names_in(node.args[1]), kinds, place)
                if isinstance(node, ast.FunctionDef):
                    self.assertIsNone(node.returns, place)
                    self.assertTrue(all(isinstance(each, ast.Constant) for each in node.args.defaults), place)

    def test_names(self):
        for name, tree in trees().items():
            for each in bound(tree):
                if each not in ("__init__", "__eq__", "__repr__", "__str__", "__len__"):
                    self.assertRegex(each, r"\A[A-Za-z][A-Za-z0-9_]*\Z", name)
                self.assertNotIn(each, dir(builtins), name)
            for node in ast.walk(tree):
                if isinstance(node, ast.Name) and node.id in dir(builtins):
                    self.assertIn(node.id, OWN_NAMES, (name, node.lineno))
                if isinstance(node, ast.Attribute) and node.attr != "__init__":
                    self.assertNotIn(node.attr, FOREIGN, (name, node.lineno))

    def test_imports_come_from_the_file_that_defines_the_name(self):
        known = {name: defined(tree) for name, tree in trees().items()}
        for name, tree in trees().items():
            rows = [node for node in ast.walk(tree) if isinstance(node, ast.ImportFrom)]
            self.assertTrue(all(row in tree.body for row in rows), name)
            for row in rows:
                self.assertEqual((row.level, row.module.split(".")[0]), (0, "bandwright"), name)
                for each in row.names:
                    self.assertIn(each.name, known[row.module.split(".")[1]], name)
                    self.assertNotIn(each.name, bound(tree), name)

    def test_no_two_files_draw_from_one_another(self):
        draws = {name: [row.module.split(".")[1] for row in tree.body if isinstance(row, ast.ImportFrom)]
                 for name, tree in trees().items()}
        left = dict(draws)
        while left:
            free = [name for name in left if not any(other in left for other in left[name])]
            self.assertTrue(free, left)
            left = {name: left[name] for name in left if name not in free}


if __name__ == "__main__":
    unittest.main()
