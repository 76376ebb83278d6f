"""The package keeps to the small part of Python that it is written in (the rules are named by number)."""

import ast
import builtins
import re
import unittest
from pathlib import Path

PACKAGE = Path(__file__).resolve().parent.parent / "fewfills"

BUILT_IN = set(
    "len range enumerate zip min max sum abs sorted reversed int str bool list tuple dict set isinstance ord repr any "
    "all divmod Exception ValueError KeyError IndexError LookupError ZeroDivisionError StopIteration".split()
)
METHODS = set(
    "append clear copy count endswith extend find get index insert isalnum isalpha isdigit islower isspace isupper "
    "items join keys ljust lower lstrip partition pop remove replace reverse rfind rjust rpartition rsplit rstrip "
    "setdefault split splitlines startswith strip update upper values zfill bit_length".split()
)
OWN_METHODS = METHODS | {"add", "discard", "title"}
PYTHONS_OWN = {name for kind in (str, int, list, dict, set, bytes, tuple) for name in dir(kind)}
DUNDERS = {"__init__", "__eq__", "__repr__", "__str__", "__len__"}
WORDS = re.compile(
    r"\b(type|typing|typing_extensions|enum|Enum|IntEnum|StrEnum|Flag|IntFlag|Generic|Protocol|ABC|ABCMeta|namedtuple"
    r"|NamedTuple|TypedDict|TYPE_CHECKING|abstractmethod)\b|dataclass|overload|contextmanager"
)
NODES_OUT = (
    ast.With, ast.Match, ast.Delete, ast.Global, ast.Nonlocal, ast.Assert, ast.Yield, ast.YieldFrom, ast.Await,
    ast.AsyncFunctionDef, ast.AsyncFor, ast.AsyncWith, ast.SetComp, ast.DictComp, ast.GeneratorExp, ast.NamedExpr,
    ast.Starred, ast.Div, ast.MatMult, ast.AnnAssign, ast.Import, ast.TryStar,
)
TOP = (ast.FunctionDef, ast.ClassDef, ast.ImportFrom, ast.Assign)


def faults_of_text(text):
    rows = text.split("\n")
    if len(rows) > 401 or any(len(row) > 120 for row in rows):
        yield "L10: size"
    if re.search("[^ -~\n]", text):
        yield "L14: signs"
    if WORDS.search(text):
        yield "L17: words"


def faults_of_def(node):
    if node.end_lineno - node.lineno >= 40:
        yield "L10: size of a function"
    if node.decorator_list:
        yield "L4: decorator"
    given = node.args
    if given.vararg or given.kwarg or given.kwonlyargs or given.posonlyargs:
        yield "L4: parameters"


def faults_of_name(name, stored):
    if name.startswith("_"):
        yield "L12: underscore ahead"
    if hasattr(builtins, name) and (stored or name not in BUILT_IN):
        yield "L8, L15: a name of Python's own"


def faults_of_node(node):
    if isinstance(node, NODES_OUT):
        yield "L6, L7: outside the language"
    if isinstance(node, ast.FunctionDef):
        yield from faults_of_def(node)
    if isinstance(node, ast.Name):
        yield from faults_of_name(node.id, not isinstance(node.ctx, ast.Load))
    if isinstance(node, ast.arg):
        yield from faults_of_name(node.arg, True)
    if isinstance(node, ast.Attribute) and node.attr not in OWN_METHODS | DUNDERS and node.attr in PYTHONS_OWN:
        yield "L25, L26: a method of Python's own"
    if isinstance(node, ast.Assign) and len(node.targets) > 1:
        yield "L6: one target"
    if isinstance(node, (ast.For, ast.While)) and node.orelse or isinstance(node, ast.Try) and node.finalbody:
        yield "L6: else or finally"
    if isinstance(node, ast.ListComp) and (len(node.generators) > 1 or len(node.generators[0].ifs) > 1):
        yield "L7: comprehension"
    if isinstance(node, ast.Constant) and isinstance(node.value, (float, complex, bytes)):
        yield "L7: constant"
    if isinstance(node, ast.Compare):
        for operator, right in zip(node.ops, node.comparators):
            if isinstance(operator, (ast.Is, ast.IsNot)) and not isinstance(right, ast.Constant):
                yield "L20: is"


def faults_of_top(tree):
    if not ast.get_docstring(tree):
        yield "L3: docstring"
    for node in tree.body[1:]:
        if not isinstance(node, TOP):
            yield "L3: top"
    for node in ast.walk(tree):
        if isinstance(node, ast.ImportFrom):
            own = node.level == 0 and node.module.startswith("fewfills.")
            if not own or node not in tree.body or any(alias.name == "*" for alias in node.names):
                yield "L2, L16: import"


def faults_of_locals(tree):
    taken = [node.name for node in tree.body if isinstance(node, ast.ClassDef)]
    for node in tree.body:
        if isinstance(node, ast.ImportFrom):
            taken += [alias.asname or alias.name for alias in node.names]
    for node in ast.walk(tree):
        name = node.arg if isinstance(node, ast.arg) else node.id if isinstance(node, ast.Name) else None
        if name in taken and not isinstance(getattr(node, "ctx", None), ast.Load):
            yield "L15: called like an import or a class"


def faults_of(text):
    tree = ast.parse(text)
    found = list(faults_of_text(text)) + list(faults_of_top(tree)) + list(faults_of_locals(tree))
    for node in ast.walk(tree):
        # Operators have no line of their own.
        line = getattr(node, "lineno", "unknown")
        found += [f"{fault}, line {line}" for fault in faults_of_node(node)]
    return found


def drawn_from(path):
    tree = ast.parse(path.read_text(encoding="utf-8"))
    return [node.module.split(".")[1] for node in tree.body if isinstance(node, ast.ImportFrom)]


class Language(unittest.TestCase):
    def test_only_plain_files_lie_in_the_package(self):
        for path in PACKAGE.iterdir():
            if path.name != "__pycache__":
                self.assertRegex(path.name, r"^(__init__|__main__|[a-z][a-z0-9_]*)\.py$")
        self.assertTrue((PACKAGE / "__init__.py").exists())

    def test_each_file(self):
        for path in sorted(PACKAGE.glob("*.py")):
            with self.subTest(path=path.name):
                self.assertEqual(faults_of(path.read_text(encoding="utf-8")), [])

    def test_no_two_files_draw_from_one_another(self):
        drawn = {path.stem: drawn_from(path) for path in PACKAGE.glob("*.py")}
        self.assertEqual(drawn["__init__"], [])
        while drawn:
            free = [name for name in drawn if not any(other in drawn for other in drawn[name])]
            self.assertTrue(free, f"a ring among {sorted(drawn)}")
            for name in free:
                drawn.pop(name)

    def test_faults_are_found(self):
        ahead = '"""Words."""\n'
        self.assertEqual(faults_of(ahead + "def f(a):\n    return a\n"), [])
        for code in (
            "import math", "from math import gcd", "from fewfills.webs import *", "print(1)", "x = 1.5", "x = 4 / 2",
            "x = {a for a in (1, 2)}", "x = y = 1", "def f(*a):\n    return a", "def f(a):\n    return eval(a)",
            "def f(a):\n    assert a", "def f(list):\n    return list", "def f(a):\n    a.sort()", "x = 'the type'",
            "def f(a, b):\n    return a is b", "def _f():\n    return _x", "def f(a):\n    return any(x for x in a)",
            "from fewfills.webs import is_web\ndef f(is_web):\n    return 1", "class A:\n    pass\ndef f():\n    A = 1",
            "def f(a):\n" + "    a += 1\n" * 40, "x = '" + "a" * 120 + "'", "x = '\u00e4'",
        ):
            self.assertNotEqual(faults_of(ahead + code), [], code)
