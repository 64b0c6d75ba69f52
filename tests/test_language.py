"""The rules of shared/LANGUAGE.md that can be seen row by row, over the files of the package.

A rule that needs more than one look at the code is left to its reader.
"""

import ast
import re
import unittest
from pathlib import Path

PACKAGE = Path(__file__).resolve().parent.parent / "offerlists"
FILES = sorted(path for path in PACKAGE.rglob("*") if "__pycache__" not in path.parts)

LIBRARY = {"heapq", "math", "itertools", "collections"}
NOT_ALLOWED = (
    ast.AsyncFunctionDef, ast.AsyncFor, ast.AsyncWith, ast.Await, ast.Global, ast.TryStar, ast.Import, ast.Div,
    ast.MatMult, ast.MatchMapping,
)
BUILTINS = set(
    "len range enumerate zip min max sum abs sorted reversed int str bool list tuple dict set frozenset isinstance"
    " ord repr any all divmod pow getattr hasattr setattr iter next map super property staticmethod classmethod object"
    " Exception ValueError TypeError KeyError IndexError LookupError ZeroDivisionError ArithmeticError OverflowError"
    " RuntimeError NotImplementedError AttributeError StopIteration NotImplemented bytes".split()
)
PYTHON = set(dir(__builtins__)) if not isinstance(__builtins__, dict) else set(__builtins__)
DOUBLE = set(
    "init eq repr str len enter exit call iter lt le gt ge ne add sub mul floordiv mod pow and or xor lshift rshift"
    " neg pos invert abs bool contains getitem setitem".split()
)
OF_STRINGS = {name for kind in (str, int, list, dict, set, bytes, tuple) for name in dir(kind)}
METHODS = set(
    "append clear copy count endswith extend find get index insert isalnum isalpha isdigit islower isspace isupper"
    " items join keys ljust lower lstrip partition pop remove replace reverse rfind rjust rpartition rsplit rstrip"
    " setdefault split splitlines startswith strip update upper values zfill bit_length title capitalize swapcase"
    " casefold center expandtabs removeprefix removesuffix rindex isascii isdecimal isnumeric istitle isidentifier"
    " isprintable add discard sort format".split()
)
UNUSED = set("register mro elements open input law version_info with_traceback add_note".split())
UNWRITTEN = re.compile(
    r"\b(type|typing|typing_extensions|enum|Enum|IntEnum|StrEnum|Flag|IntFlag|Generic|Protocol|ABC|ABCMeta|namedtuple"
    r"|NamedTuple|TypedDict|TYPE_CHECKING|abstractmethod)\b|dataclass|overload|contextmanager|_wall|_WallAttr"
)


def code_alone(tree):
    """The code without its comments and docstrings."""
    for node in ast.walk(tree):
        if isinstance(node, (ast.Module, ast.ClassDef, ast.FunctionDef)) and ast.get_docstring(node) is not None:
            node.body = node.body[1:] or [ast.Pass()]
    return ast.unparse(tree)


def of_text(text):
    """The faults of the characters and sizes of a file: L10, L14, L27."""
    lines = text.split("\n")
    if len(lines) > 400 or any(len(line) > 120 for line in lines):
        yield "L10 size"
    if any(sign != "\n" and not " " <= sign <= "~" for sign in text):
        yield "L14 characters"


def of_module(tree):
    """The faults of a file as a whole: L2, L3, L17."""
    for node in tree.body:
        if isinstance(node, ast.Assign):
            plain = len(node.targets) == 1 and isinstance(node.targets[0], ast.Name)
            if not plain or any(isinstance(part, (ast.Call, ast.ListComp)) for part in ast.walk(node.value)):
                yield "L3 module level"
        elif not isinstance(node, (ast.ImportFrom, ast.FunctionDef, ast.ClassDef)):
            if not (isinstance(node, ast.Expr) and isinstance(node.value, ast.Constant)):
                yield "L3 module level"
    inside = [node for node in ast.walk(tree) if isinstance(node, ast.ImportFrom) and node not in tree.body]
    if inside:
        yield "L2 imports at the top"
    if UNWRITTEN.search(code_alone(tree)):
        yield "L17 words"


def of_import(node):
    whole = node.module or ""
    if node.level or any(name.name == "*" or name.asname for name in node.names):
        yield "L2 imports"
    if whole not in LIBRARY and whole != "__future__" and not whole.startswith("offerlists."):
        yield "L2 imports"


def of_function(node):
    if node.end_lineno - node.lineno + 1 > 40:
        yield "L10 size of " + node.name
    if node.name.startswith("__") and node.name[2:-2] not in DOUBLE:
        yield "L5 " + node.name
    for decorator in node.decorator_list:
        setter = isinstance(decorator, ast.Attribute) and decorator.attr == "setter"
        if not setter and getattr(decorator, "id", "") not in ("property", "staticmethod", "classmethod"):
            yield "L4 decorator"
    if any(isinstance(part, (ast.Import, ast.ImportFrom)) for part in ast.walk(node)):
        yield "L2 imports"


def of_name(name):
    if name in UNUSED or (name in PYTHON and name not in BUILTINS):
        yield "L8 or L17 " + name
    if name.startswith("__"):
        yield "L8 " + name


def of_constant(value):
    if isinstance(value, float) or value is ...:
        yield "L7 floats"
    if isinstance(value, str) and ("%" in value or value.endswith(("._", ".__"))):
        yield "L27 strings"


def of_node(node):
    """The faults of one piece of code: L2, L4, L6, L7, L8, L15, L17, L20, L25, L27."""
    if isinstance(node, NOT_ALLOWED):
        yield "L6 or L7 " + node.__class__.__name__
    if isinstance(node, ast.ImportFrom):
        yield from of_import(node)
    if isinstance(node, ast.FunctionDef):
        yield from of_function(node)
    if isinstance(node, (ast.FunctionDef, ast.ClassDef)) and node.name in PYTHON:
        yield "L15 " + node.name
    if isinstance(node, ast.ClassDef) and (node.decorator_list or node.keywords):
        yield "L5 class"
    if isinstance(node, ast.Name):
        yield from of_name(node.id)
        if isinstance(node.ctx, ast.Store) and node.id in PYTHON:
            yield "L15 " + node.id
    if isinstance(node, ast.arg) and node.arg in PYTHON:
        yield "L15 " + node.arg
    if isinstance(node, ast.Constant):
        yield from of_constant(node.value)
    if isinstance(node, ast.Attribute) and node.attr in OF_STRINGS and node.attr not in METHODS | {"__init__"}:
        yield "L25 " + node.attr
    if isinstance(node, ast.Attribute) and node.attr in UNUSED:
        yield "L17 " + node.attr
    if isinstance(node, ast.Compare) and any(isinstance(sign, (ast.Is, ast.IsNot)) for sign in node.ops):
        sides = [node.left, *node.comparators]
        if not any(isinstance(side, ast.Constant) or getattr(side, "id", "") == "self" for side in sides):
            yield "L20 is"


def faults(text):
    tree = ast.parse(text)
    found = [fault for node in ast.walk(tree) for fault in of_node(node)]
    return found + list(of_text(text)) + list(of_module(tree))


def of_classes(tree):
    """The names of methods and properties, and those of the attributes that are assigned: L5, L18."""
    classes = [node for node in ast.walk(tree) if isinstance(node, ast.ClassDef)]
    methods = {part.name for node in classes for part in node.body if isinstance(part, ast.FunctionDef)}
    attributes = {node.attr for node in ast.walk(tree) if isinstance(node, ast.Attribute) and isinstance(node.ctx, ast.Store)}
    return methods, attributes


class Language(unittest.TestCase):
    def test_the_folder_holds_files_of_python_alone(self):
        for path in FILES:
            inside = path.relative_to(PACKAGE)
            if path.is_dir():
                self.assertTrue((path / "__init__.py").is_file(), inside)
            else:
                self.assertRegex(path.name, r"\A([a-z][a-z0-9_]*|__init__|__main__)\.py\Z")
        self.assertTrue((PACKAGE / "__init__.py").is_file())

    def test_no_faults(self):
        for path in FILES:
            if path.suffix == ".py":
                with self.subTest(path=path.name):
                    self.assertEqual(faults(path.read_text(encoding="utf-8")), [])

    def test_no_name_is_a_method_and_an_attribute(self):
        methods, attributes = set(), set()
        for path in FILES:
            if path.suffix == ".py":
                more = of_classes(ast.parse(path.read_text(encoding="utf-8")))
                methods, attributes = methods | more[0], attributes | more[1]
        self.assertLess({"read", "wave", "weaker", "led"}, methods)
        self.assertLess({"given", "_wave"}, attributes)
        self.assertEqual(sorted(methods & attributes), [])

    def test_faults_are_seen(self):
        for text in (
            "import os", "from os import path", "from .limits import WORDS", "from offerlists.limits import *",
            "print(1)", "x = len('a')", "x, y = 1, 2", "def f():\n    return 1 / 2", "x = 1.5", "x = 'a%b'",
            "x = '\u00e9'", "x = 1" + " " * 120, "def f():\n" + "    a = 1\n" * 40, "@f\ndef g():\n    return 1",
            "def f(x):\n    return type(x)", "def f(x):\n    return x.encode_all or x.maketrans", "def f(id):\n    pass",
            "class A:\n    def __hash__(self):\n        return 1", "def f(a, b):\n    return a is b",
            "def f():\n    global x", "def f():\n    from offerlists.limits import WORDS",
            "def f(rows):\n    with open(rows) as held:\n        pass", "x = 'enum'",
        ):
            with self.subTest(text=text[:40]):
                self.assertNotEqual(faults(text), [])


if __name__ == "__main__":
    unittest.main()
