"""Holds the package's files to those rules of the language that can be read off their form."""

import ast
import builtins
import re
import unittest
from pathlib import Path

PACKAGE = Path(__file__).resolve().parent.parent / "surejoin"

NODES = """Module FunctionDef ClassDef Return Assign AugAssign For While If Raise Try ExceptHandler ImportFrom alias
Expr Pass Break Continue BoolOp And Or BinOp Add Sub Mult FloorDiv Mod Pow LShift RShift BitOr BitXor BitAnd UnaryOp
Invert Not USub UAdd Lambda IfExp Dict Set ListComp comprehension Compare Eq NotEq Lt LtE Gt GtE Is IsNot In NotIn Call
keyword FormattedValue JoinedStr Constant Attribute Subscript Slice Name Load Store List Tuple arguments arg""".split()
OWN_NAMES = """len range enumerate zip min max sum abs sorted reversed int str bool list tuple dict set isinstance ord
repr any all divmod frozenset ValueError KeyError IndexError LookupError ZeroDivisionError Exception ArithmeticError
OverflowError RuntimeError NotImplementedError StopIteration""".split()
METHODS = """append clear copy count endswith extend find get index insert isalnum isalpha isdigit islower isspace
isupper items join keys ljust lower lstrip partition pop remove replace reverse rfind rjust rpartition rsplit rstrip
setdefault split splitlines startswith strip update upper values zfill bit_length""".split()
WORDS = """type typing typing_extensions enum Enum IntEnum StrEnum Flag IntFlag Generic Protocol ABC ABCMeta namedtuple
NamedTuple TypedDict TYPE_CHECKING abstractmethod""".split()
NOWHERE = """register mro elements open input version_info with_traceback add_note format format_map""".split()
NO_VALUES = """items keys values pop update append clear extend insert remove reverse setdefault sort args
encode""".split()
SPECIAL = ("__init__", "__eq__", "__repr__", "__str__", "__len__")
TOP_NODES = (ast.ImportFrom, ast.FunctionDef, ast.ClassDef, ast.Assign)


def faults_of_text(text):
    lines = text.split("\n")
    if len(lines) > 401:
        yield "L10 a file of more than 400 lines"
    for number, line in enumerate(lines, start=1):
        if len(line) > 120:
            yield f"L10 line {number} is too long"
        if re.search("[^ -~]", line):
            yield f"L14 line {number} has another sign"
    for word in re.findall(r"\w+", text):
        if word in WORDS or re.search("dataclass|overload|contextmanager", word):
            yield f"L17 the word {word}"


def bound_names(tree):
    for node in ast.walk(tree):
        if isinstance(node, (ast.FunctionDef, ast.ClassDef)):
            yield node.name
        elif isinstance(node, ast.arg):
            yield node.arg
        elif isinstance(node, ast.Name) and isinstance(node.ctx, ast.Store):
            yield node.id
        elif isinstance(node, ast.Attribute):
            yield node.attr


def faults_of_names(tree, methods):
    top = [node.name for node in tree.body if isinstance(node, (ast.FunctionDef, ast.ClassDef))]
    outer = [alias.name for node in tree.body if isinstance(node, ast.ImportFrom) for alias in node.names]
    outer += [node.name for node in tree.body if isinstance(node, ast.ClassDef)]
    if len(set(top)) != len(top):
        yield "L15 a name is bound twice at the top"
    for name in bound_names(tree):
        if not re.fullmatch("[A-Za-z][A-Za-z0-9_]*", name) and name not in SPECIAL:
            yield f"L12 the name {name}"
    for node in ast.walk(tree):
        local = node.arg if isinstance(node, ast.arg) else ""
        if isinstance(node, ast.Name) and isinstance(node.ctx, ast.Store):
            local = node.id
        if hasattr(builtins, local) or local in outer:
            yield f"L15 a parameter or local called {local}"
        if isinstance(node, ast.Name) and hasattr(builtins, node.id) and node.id not in OWN_NAMES:
            yield f"L8 the name {node.id}"
        if isinstance(node, ast.Call) and isinstance(node.func, ast.Attribute):
            if node.func.attr not in METHODS and node.func.attr not in methods:
                yield f"L25 the method {node.func.attr}"


def faults_of_node(node):
    if type(node).__name__ not in NODES:
        yield f"L6, L7 a {type(node).__name__}"
    if isinstance(node, ast.FunctionDef):
        if node.end_lineno - node.lineno >= 40:
            yield f"L10 {node.name} has more than 40 lines"
        if node.decorator_list or node.args.vararg or node.args.kwarg or node.args.kwonlyargs or node.args.posonlyargs:
            yield f"L4 the form of {node.name}"
    if isinstance(node, ast.ClassDef):
        if len(node.bases) > 1 or node.keywords or node.decorator_list:
            yield f"L5 the form of {node.name}"
        if not all(isinstance(part, (ast.FunctionDef, ast.Pass)) for part in node.body):
            yield f"L5 a value in the body of {node.name}"
        methods = [part.name for part in node.body if isinstance(part, ast.FunctionDef)]
        if len(set(methods)) != len(methods):
            yield f"L18 a method stands twice in {node.name}"
    if isinstance(node, ast.Assign) and len(node.targets) != 1:
        yield "L6 more than one target"
    if isinstance(node, (ast.For, ast.While)) and node.orelse:
        yield "L6 an else behind a loop"
    if isinstance(node, ast.Compare):
        for sign, right in zip(node.ops, node.comparators):
            if isinstance(sign, (ast.Is, ast.IsNot)) and not (
                isinstance(right, ast.Constant) and (right.value is None or isinstance(right.value, bool))
            ):
                yield "L20 is beside something else"
    if isinstance(node, ast.Constant):
        if isinstance(node.value, (float, complex, bytes)):
            yield f"L7 the value {node.value!r}"
        if isinstance(node.value, str) and "%" in node.value:
            yield "L27 the percent sign in a text"
    if isinstance(node, ast.ListComp) and (len(node.generators) != 1 or len(node.generators[0].ifs) > 1):
        yield "L7 a list comprehension of more than one for or if"


def faults_of_values(tree, methods):
    for node in ast.walk(tree):
        name = node.id if isinstance(node, ast.Name) else node.attr if isinstance(node, ast.Attribute) else ""
        if name in NOWHERE:
            yield f"L17 the name {name}"
        if isinstance(node, ast.Attribute) and isinstance(node.ctx, ast.Store):
            if name in methods:
                yield f"L18 {name} is a method and a value"
            if name in NO_VALUES:
                yield f"L26 a value called {name}"
        if isinstance(node, ast.Call) and isinstance(node.func, ast.Attribute) and node.keywords:
            yield f"L22 a keyword at {node.func.attr}"
    for node in tree.body:
        if isinstance(node, ast.Assign) and isinstance(node.value, (ast.List, ast.Dict)):
            within = list(ast.walk(node.value))[1:]
            if any(isinstance(part, (ast.List, ast.Dict, ast.Set)) for part in within):
                yield f"L15 a list or dict within that of line {node.lineno}"


def faults_of_top(tree, files):
    for place, node in enumerate(tree.body):
        is_docstring = place == 0 and isinstance(node, ast.Expr) and isinstance(node.value, ast.Constant)
        if not isinstance(node, TOP_NODES) and not is_docstring:
            yield f"L3 line {node.lineno} at the top"
    for node in ast.walk(tree):
        if isinstance(node, ast.ImportFrom):
            own = [f"surejoin.{name}" for name in files]
            if node not in tree.body or node.level or node.module not in own or node.names[0].name == "*":
                yield f"L2, L16 the import in line {node.lineno}"


def own_methods(trees):
    return [
        part.name for tree in trees for node in ast.walk(tree) if isinstance(node, ast.ClassDef)
        for part in node.body if isinstance(part, ast.FunctionDef)
    ]


def faults(text, methods, files):
    tree = ast.parse(text)
    told = list(faults_of_text(text)) + list(faults_of_names(tree, methods)) + list(faults_of_top(tree, files))
    told += list(faults_of_values(tree, methods))
    return told + [fault for node in ast.walk(tree) for fault in faults_of_node(node)]


def top_names(tree):
    named = [node.name for node in tree.body if isinstance(node, (ast.FunctionDef, ast.ClassDef))]
    return named + [node.targets[0].id for node in tree.body if isinstance(node, ast.Assign)]


def drawn_from(tree):
    return [node.module.split(".")[1] for node in tree.body if isinstance(node, ast.ImportFrom)]


class TestLanguage(unittest.TestCase):
    def setUp(self):
        self.paths = sorted(path for path in PACKAGE.iterdir() if path.name != "__pycache__")
        self.texts = {path.stem: path.read_text(encoding="utf-8") for path in self.paths}
        self.trees = {name: ast.parse(text) for name, text in self.texts.items()}

    def test_only_plain_files_lie_in_the_package(self):
        self.assertIn("__init__", self.texts)
        for path in self.paths:
            self.assertTrue(path.is_file(), path)
            self.assertRegex(path.name, r"^([a-z][a-z0-9_]*|__init__)\.py$")
            self.assertFalse(path.stem != "__init__" and hasattr(builtins, path.stem), path)

    def test_each_file_keeps_to_the_rules(self):
        methods = own_methods(self.trees.values())
        for name, text in self.texts.items():
            with self.subTest(file=name):
                self.assertEqual(faults(text, methods, list(self.texts)), [])

    def test_no_two_files_draw_from_one_another(self):
        left = {name: drawn_from(tree) for name, tree in self.trees.items()}
        while left:
            free = [name for name in left if not any(other in left for other in left[name])]
            self.assertTrue(free, f"a ring among {sorted(left)}")
            left = {name: drawn for name, drawn in left.items() if name not in free}

    def test_each_name_is_drawn_from_the_file_that_defines_it(self):
        for name, tree in self.trees.items():
            self.assertEqual(len(set(top_names(tree))), len(top_names(tree)), name)
            for node in tree.body:
                if isinstance(node, ast.ImportFrom):
                    there = top_names(self.trees[node.module.split(".")[1]])
                    for alias in node.names:
                        self.assertIn(alias.name, there, name)
                        self.assertIsNone(alias.asname, name)

    def test_each_name_that_is_drawn_is_used(self):
        for name, tree in self.trees.items():
            used = [node.id for node in ast.walk(tree) if isinstance(node, ast.Name)]
            for node in tree.body:
                if isinstance(node, ast.ImportFrom):
                    self.assertEqual([alias.name for alias in node.names if alias.name not in used], [], name)

    def test_faults_are_found(self):
        for text in (
            "import sys\n", "from os import path\n", "from surejoin.sums import *\n", "print(1)\n", "x = 1.5\n",
            "def f(x):\n    return x / 2\n", "def f(*x):\n    return x\n", "def f(x):\n    return open(x)\n",
            "def f(map):\n    return map\n", "def f(x):\n    x.sort()\n", "def f(x):\n    return x is f\n",
            "def f(x):\n    a = b = x\n    return a, b\n", "def f(x):\n    del x\n", "def _f():\n    pass\n",
            "class A:\n    x = 1\n", "class A(B, C):\n    pass\n", "# the type of it\n", "x = '5 %'\n", "\tx = 1\n",
            "def f():\n    return {x for x in [1]}\n", "def f():\n    yield 1\n", "def f(x):\n    assert x\n",
            "# " + "x" * 120 + "\n", "# \u00e9\n", "def f():\n" + "    pass\n" * 40, "x = 1\n" * 401,
            "def f(x):\n    x.open = 1\n", "def f(x):\n    x.items = 1\n", "def f(x):\n    return x.split(sep=' ')\n",
            "x = {1: [2]}\n", "x = [{}]\n", "x = [(1, [2])]\n",
            "class A:\n    def f(self):\n        self.g = 1\n\n    def g(self):\n        pass\n",
            "def f():\n    pass\n\n\ndef f():\n    pass\n", "class A:\n    def f(self):\n        pass\n\n" * 2,
        ):
            with self.subTest(text=text[:60]):
                if text.startswith("\t"):
                    self.assertTrue(list(faults_of_text(text)))
                else:
                    self.assertTrue(faults(text, own_methods([ast.parse(text)]), ["sums"]))


if __name__ == "__main__":
    unittest.main()
