"""Holds the package to those rules of the language that can be counted row by row."""

import ast
import builtins
import pathlib
import re
import unittest

PACKAGE = pathlib.Path(__file__).resolve().parent.parent / "gatetown"

STATEMENTS = (ast.Assign, ast.AugAssign, ast.AnnAssign, ast.If, ast.While, ast.For, ast.Return, ast.Break, ast.Continue,
              ast.Pass, ast.Raise, ast.Try, ast.Expr, ast.FunctionDef, ast.ClassDef, ast.ImportFrom)
BARRED = (ast.Div, ast.SetComp, ast.DictComp, ast.GeneratorExp, ast.NamedExpr, ast.Starred, ast.Yield, ast.YieldFrom,
          ast.Await)
OWN_NAMES = """len range enumerate zip min max sum abs sorted reversed int str bool list tuple dict set frozenset
isinstance ord repr any all divmod Exception ValueError TypeError KeyError IndexError LookupError ZeroDivisionError
ArithmeticError OverflowError RuntimeError NotImplementedError AttributeError StopIteration""".split()
OWN_METHODS = """append clear copy count endswith extend find get index insert isalnum isalpha isdigit islower isspace
isupper items join keys ljust lower lstrip partition pop remove replace reverse rfind rjust rpartition rsplit rstrip
setdefault split splitlines startswith strip update upper values zfill bit_length""".split()
DOUBLE = ["__init__", "__eq__", "__repr__", "__str__", "__len__"]
BARRED_WORDS = re.compile(r"\b(type|typing|typing_extensions|enum|Enum|IntEnum|StrEnum|Flag|IntFlag|Generic|Protocol"
                          r"|ABC|ABCMeta|namedtuple|NamedTuple|TypedDict|TYPE_CHECKING|abstractmethod)\b"
                          r"|dataclass|overload|contextmanager")
BARRED_NAMES = """register mro elements open input version_info with_traceback add_note attrgetter breakpoint builtins
compile copyright credits delattr dir eval exec exit gc getattr globals hasattr help id importlib license locals
methodcaller os quit setattr super type vars sys format format_map""".split()


def text_faults(text):
    rows = text.split("\n")
    faults = []
    if len(rows) > 401:
        faults.append("L10 file")
    for row in rows:
        if len(row) > 120:
            faults.append("L10 row")
        if any(not " " <= sign <= "~" for sign in row):
            faults.append("L14 sign")
        if BARRED_WORDS.search(row):
            faults.append("L17 word")
    return faults


def is_docstring(node):
    return isinstance(node, ast.Expr) and isinstance(node.value, ast.Constant) and isinstance(node.value.value, str)


def top_faults(tree):
    faults = []
    for place, node in enumerate(tree.body):
        if is_docstring(node) and place == 0:
            continue
        if not isinstance(node, (ast.ImportFrom, ast.FunctionDef, ast.ClassDef, ast.Assign)):
            faults.append("L3 top")
        if isinstance(node, ast.Assign) and any(isinstance(part, (ast.Call, ast.Lambda)) for part in ast.walk(node)):
            faults.append("L3 value")
    for node in ast.walk(tree):
        if isinstance(node, (ast.ImportFrom, ast.ClassDef)) and node not in tree.body:
            faults.append("L2 L15 place")
    return faults


def statement_faults(node):
    faults = []
    if not isinstance(node, STATEMENTS):
        faults.append("L6 statement")
    if isinstance(node, ast.Expr) and not isinstance(node.value, ast.Call) and not is_docstring(node):
        faults.append("L6 expression")
    if isinstance(node, ast.Assign) and len(node.targets) != 1:
        faults.append("L6 targets")
    if isinstance(node, (ast.For, ast.While)) and node.orelse:
        faults.append("L6 else")
    if isinstance(node, ast.Try) and (node.finalbody or any(one.type is None for one in node.handlers)):
        faults.append("L6 try")
    if isinstance(node, ast.ImportFrom):
        own = node.level == 0 and node.module.startswith("gatetown.")
        if not own or any(one.name == "*" or one.asname for one in node.names):
            faults.append("L2 import")
    if isinstance(node, ast.FunctionDef):
        if node.args.vararg or node.args.kwarg or node.args.kwonlyargs or node.args.posonlyargs:
            faults.append("L4 parameters")
        if node.end_lineno - node.lineno >= 40:
            faults.append("L10 function")
    if isinstance(node, (ast.FunctionDef, ast.ClassDef)) and node.decorator_list:
        faults.append("L4 L5 decorator")
    if isinstance(node, ast.ClassDef):
        if len(node.bases) > 1 or node.keywords:
            faults.append("L5 bases")
        if any(not isinstance(one, (ast.FunctionDef, ast.Pass)) and not is_docstring(one) for one in node.body):
            faults.append("L5 body")
    return faults


def value_faults(node):
    faults = []
    if isinstance(node, BARRED):
        faults.append("L7 form")
    if isinstance(node, ast.Constant) and isinstance(node.value, (float, bytes, complex)):
        faults.append("L7 value")
    if isinstance(node, ast.Constant) and isinstance(node.value, str) and "%" in node.value:
        faults.append("L27 text")
    if isinstance(node, ast.ListComp) and (len(node.generators) > 1 or len(node.generators[0].ifs) > 1):
        faults.append("L7 comprehension")
    if isinstance(node, ast.BinOp) and isinstance(node.op, ast.Pow) and not isinstance(node.right, ast.Constant):
        faults.append("L27 power")
    if isinstance(node, ast.Compare):
        for op, side in zip(node.ops, node.comparators):
            plain = isinstance(side, ast.Constant) and (side.value is None or isinstance(side.value, bool))
            if isinstance(op, (ast.Is, ast.IsNot)) and not plain:
                faults.append("L20 is")
    return faults


def bound_names(tree):
    names = []
    for node in ast.walk(tree):
        if isinstance(node, (ast.FunctionDef, ast.ClassDef)):
            names.append(node.name)
        elif isinstance(node, ast.arg):
            names.append(node.arg)
        elif isinstance(node, ast.Name) and isinstance(node.ctx, ast.Store):
            names.append(node.id)
        elif isinstance(node, ast.alias):
            names.append(node.name)
        elif isinstance(node, ast.Attribute) and isinstance(node.ctx, ast.Store):
            names.append(node.attr)
        elif isinstance(node, ast.ExceptHandler) and node.name:
            names.append(node.name)
    return names


def local_names(tree):
    """Names bound as parameters, locals or at the top, but not methods and values of objects."""
    methods = [part for node in ast.walk(tree) if isinstance(node, ast.ClassDef) for part in node.body]
    names = [node.name for node in ast.walk(tree) if isinstance(node, ast.FunctionDef) and node not in methods]
    names.extend(node.arg for node in ast.walk(tree) if isinstance(node, ast.arg))
    names.extend(node.id for node in ast.walk(tree) if isinstance(node, ast.Name) and isinstance(node.ctx, ast.Store))
    return names


def name_faults(tree, methods):
    faults = []
    bound = bound_names(tree)
    for name in bound:
        if name.startswith("_") and name not in DOUBLE:
            faults.append("L12 name " + name)
        if name in BARRED_NAMES:
            faults.append("L17 name " + name)
    tops = [node.name for node in tree.body if isinstance(node, ast.ClassDef)]
    tops.extend(one.name for node in tree.body if isinstance(node, ast.ImportFrom) for one in node.names)
    for name in local_names(tree):
        if hasattr(builtins, name) or name in tops:
            faults.append("L15 name " + name)
    for node in ast.walk(tree):
        if isinstance(node, ast.Name) and node.id not in bound and node.id not in OWN_NAMES:
            faults.append("L8 name " + node.id)
        if isinstance(node, ast.Call) and isinstance(node.func, ast.Attribute):
            if node.func.attr not in OWN_METHODS + methods + DOUBLE:
                faults.append("L25 method " + node.func.attr)
    return faults


def methods_and_values(trees):
    methods = []
    values = []
    for tree in trees:
        for node in ast.walk(tree):
            if isinstance(node, ast.ClassDef):
                methods.extend(one.name for one in node.body if isinstance(one, ast.FunctionDef))
            if isinstance(node, ast.Attribute) and isinstance(node.ctx, ast.Store):
                values.append(node.attr)
    return methods, values


def faults_of(text, methods=None):
    tree = ast.parse(text)
    own = methods_and_values([tree])[0] if methods is None else methods
    faults = text_faults(text) + top_faults(tree) + name_faults(tree, own)
    for node in ast.walk(tree):
        if isinstance(node, ast.stmt):
            faults.extend(statement_faults(node))
        faults.extend(value_faults(node))
    return faults


def drawn_from(tree):
    return [node.module.split(".")[1] for node in tree.body if isinstance(node, ast.ImportFrom)]


BAD = [
    ("import os\n", "L6 statement"), ("from os import path\n", "L2 import"),
    ("from gatetown.a import *\n", "L2 import"), ("def f(a):\n    return a is 1\n", "L20 is"),
    ("def f(*a):\n    return a\n", "L4 parameters"), ("x = len('a')\n", "L3 value"), ("print(1)\n", "L3 top"),
    ("def f():\n    return [1 / 2]\n", "L7 form"), ("def f(a):\n    return 2 ** a\n", "L27 power"),
    ("def f(a):\n    a = b = 1\n", "L6 targets"), ("def f(a):\n    del a\n", "L6 statement"),
    ("def f(a):\n    return a is f\n", "L20 is"), ("def f(a):\n    return a.format(1)\n", "L25 method format"),
    ("def f(hash):\n    return hash\n", "L15 name hash"), ("def f():\n    return chr(1)\n", "L8 name chr"),
    ("class A:\n    x = 1\n", "L5 body"), ("# a type\n", "L17 word"), ("# " + "a" * 120 + "\n", "L10 row"),
    ("def f():\n" + "    f()\n" * 40, "L10 function"), ("x = 1\n" * 401, "L10 file"), ("#\t\n", "L14 sign"),
    ("from gatetown.a import g\ndef f(g):\n    return g\n", "L15 name g"),
    ("def f():\n    _x = 1\n    return _x\n", "L12 name _x"), ("x = 1.5\n", "L7 value"), ("x = '%'\n", "L27 text"),
]


class LanguageTest(unittest.TestCase):
    def setUp(self):
        self.texts = {}
        for path in sorted(PACKAGE.glob("*.py")):
            self.texts[path.stem] = path.read_text(encoding="utf-8")
        self.trees = {name: ast.parse(text) for name, text in self.texts.items()}

    def test_the_folder_holds_files_of_the_program_alone(self):
        self.assertIn("__init__", self.texts)
        for path in PACKAGE.iterdir():
            if path.name != "__pycache__":
                self.assertRegex(path.name, r"^[a-z0-9_]+\.py$")

    def test_every_file_keeps_to_the_rules(self):
        methods, values = methods_and_values(self.trees.values())
        self.assertEqual(sorted(set(methods) & set(values)), [])
        for name, text in self.texts.items():
            self.assertEqual(faults_of(text, methods), [], name)

    def test_no_two_files_draw_from_one_another(self):
        seen = {}

        def depth(name, path):
            self.assertNotIn(name, path)
            if name not in seen:
                for another in drawn_from(self.trees[name]):
                    depth(another, path + [name])
                seen[name] = True

        for name in self.trees:
            depth(name, [])

    def test_the_faults_are_found(self):
        for text, fault in BAD:
            self.assertIn(fault, faults_of(text), text[:60])


if __name__ == "__main__":
    unittest.main()
