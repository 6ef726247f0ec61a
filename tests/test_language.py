"""The package's form: those rules of ../shared/LANGUAGE.md that a walk over the code can hold.

A rule that needs a reader (small functions, plain names, what a comment says) is left to the reader.
"""

import ast
import builtins
import re
import unittest
from pathlib import Path

PACKAGE = Path(__file__).resolve().parent.parent / "chordbed"

STATEMENTS = (
    ast.Assign, ast.AugAssign, ast.AnnAssign, ast.If, ast.While, ast.For, ast.Return, ast.Break, ast.Continue,
    ast.Pass, ast.Raise, ast.Try, ast.Expr, ast.FunctionDef, ast.ClassDef, ast.ImportFrom,
)
EXPRESSIONS = (
    ast.Constant, ast.List, ast.Tuple, ast.Dict, ast.Set, ast.BinOp, ast.UnaryOp, ast.BoolOp, ast.Compare,
    ast.IfExp, ast.Call, ast.Attribute, ast.Subscript, ast.Slice, ast.ListComp, ast.JoinedStr, ast.FormattedValue,
    ast.Name, ast.Lambda,
)
BUILT_IN = set((
    "len range enumerate zip min max sum abs sorted reversed int str bool list tuple dict set frozenset isinstance "
    "ord repr any all divmod Exception ValueError TypeError KeyError IndexError LookupError ZeroDivisionError "
    "ArithmeticError OverflowError RuntimeError NotImplementedError AttributeError StopIteration"
).split())
METHODS = set((
    "append clear copy count endswith extend find get index insert isalnum isalpha isdigit islower isspace isupper "
    "items join keys ljust lower lstrip partition pop remove replace reverse rfind rjust rpartition rsplit rstrip "
    "setdefault split splitlines startswith strip update upper values zfill bit_length"
).split())
OWN_UNDERSCORES = ("__init__", "__eq__", "__repr__", "__str__", "__len__")
FORBIDDEN_NAMES = set((
    "register mro elements open input version_info with_traceback add_note attrgetter breakpoint builtins compile "
    "copyright credits delattr dir eval exec exit gc getattr globals hasattr help id importlib license locals "
    "methodcaller os quit setattr super type vars sys __name__ format format_map chr"
).split())
FORBIDDEN_WORDS = re.compile(
    r"\b(type|typing|typing_extensions|enum|Enum|IntEnum|StrEnum|Flag|IntFlag|Generic|Protocol|ABC|ABCMeta|"
    r"namedtuple|NamedTuple|TypedDict|TYPE_CHECKING|abstractmethod)\b|dataclass|overload|contextmanager"
)


def faults_of_text(text):
    """L10, L14, L17: what is seen in the signs alone."""
    faults = []
    lines = text.split("\n")
    if len(lines) > 401:
        faults.append("L10 more than 400 lines")
    for number, line in enumerate(lines, start=1):
        if len(line) > 120:
            faults.append(f"L10 line {number} is long")
        if any(not " " <= sign <= "~" for sign in line):
            faults.append(f"L14 sign in line {number}")
        if FORBIDDEN_WORDS.search(line):
            faults.append(f"L17 word in line {number}")
    return faults


def faults_of_top(tree):
    """L2, L3, L15, L16: the top of a file."""
    faults = []
    bound = []
    for node in tree.body:
        if isinstance(node, ast.ImportFrom):
            if node.level or not (node.module or "").startswith("chordbed."):
                faults.append(f"L2 import in line {node.lineno}")
            bound += [alias.asname or alias.name for alias in node.names]
        elif isinstance(node, (ast.FunctionDef, ast.ClassDef)):
            bound.append(node.name)
        elif isinstance(node, ast.Assign):
            bound += [target.id for target in node.targets]
        elif not (isinstance(node, ast.Expr) and isinstance(node.value, ast.Constant)):
            faults.append(f"L3 line {node.lineno}")
    if len(bound) != len(set(bound)):
        faults.append("L15 a name is bound twice")
    return faults


def faults_of_def(node):
    """L4, L5, L10, L15: a function or a class."""
    faults = []
    if node.decorator_list:
        faults.append("L4 decorator")
    if isinstance(node, ast.FunctionDef):
        given = node.args
        if given.vararg or given.kwarg or given.kwonlyargs or given.posonlyargs:
            faults.append("L4 parameters")
        faults += [f"L15 parameter {one.arg}" for one in given.args if hasattr(builtins, one.arg)]
        if node.end_lineno - node.lineno >= 40:
            faults.append("L10 more than 40 lines")
    else:
        if len(node.bases) > 1 or node.keywords:
            faults.append("L5 bases")
        for part in node.body:
            if not isinstance(part, (ast.FunctionDef, ast.Expr, ast.Pass)):
                faults.append("L5 body")
    return [f"{fault}: {node.name}" for fault in faults]


def faults_of_name(name, stored):
    """L8, L12, L15, L17: a name where it stands."""
    if name in FORBIDDEN_NAMES or name.startswith("_"):
        return [f"L12, L17 name {name}"]
    if hasattr(builtins, name) and (stored or name not in BUILT_IN):
        return [f"L8 name {name}"]
    return []


def faults_of_attribute(node, own):
    """L8, L17, L25: an attribute."""
    name = node.attr
    if name in FORBIDDEN_NAMES or (name.startswith("_") and name not in OWN_UNDERSCORES):
        return [f"L17 attribute {name}"]
    if name not in METHODS and name not in own and name not in OWN_UNDERSCORES:
        return [f"L25 attribute {name}"]
    return []


def faults_of_operator(node):
    """L7, L20, L27: operators and comparisons."""
    faults = []
    if isinstance(node, ast.BinOp) and isinstance(node.op, (ast.Div, ast.MatMult)):
        faults.append("L7 operator")
    if isinstance(node, ast.BinOp) and isinstance(node.op, ast.Pow) and not isinstance(node.right, ast.Constant):
        faults.append("L27 power")
    if isinstance(node, ast.Compare):
        for operator, right in zip(node.ops, node.comparators):
            if isinstance(operator, (ast.Is, ast.IsNot)) and ast.unparse(right) not in ("None", "True", "False"):
                faults.append("L20 is")
    return faults


def faults_of_node(node, own):
    """Whatever one node of the tree does against the rules."""
    faults = []
    if isinstance(node, ast.stmt) and not isinstance(node, STATEMENTS):
        faults.append("L6 statement")
    if isinstance(node, ast.expr) and not isinstance(node, EXPRESSIONS):
        faults.append("L7 expression")
    if isinstance(node, (ast.For, ast.While)) and node.orelse:
        faults.append("L6 else behind a loop")
    if isinstance(node, ast.Try) and node.finalbody:
        faults.append("L6 finally")
    if isinstance(node, ast.Assign) and len(node.targets) > 1:
        faults.append("L6 targets")
    if isinstance(node, ast.ListComp) and (len(node.generators) > 1 or len(node.generators[0].ifs) > 1):
        faults.append("L7 comprehension")
    if isinstance(node, ast.Constant) and isinstance(node.value, (float, complex, bytes)):
        faults.append("L7 value")
    if isinstance(node, ast.Constant) and isinstance(node.value, str) and chr(37) in node.value:
        faults.append("L27 text")
    if isinstance(node, (ast.FunctionDef, ast.ClassDef)):
        faults += faults_of_def(node)
    if isinstance(node, ast.Name):
        faults += faults_of_name(node.id, isinstance(node.ctx, ast.Store))
    if isinstance(node, ast.Attribute):
        faults += faults_of_attribute(node, own)
    faults += faults_of_operator(node)
    return [f"{fault}, line {getattr(node, 'lineno', 0)}" for fault in faults]


def own_names(trees):
    """The methods and values of the package's own classes."""
    names = set()
    for tree in trees:
        for node in ast.walk(tree):
            if isinstance(node, ast.ClassDef):
                names |= {part.name for part in node.body if isinstance(part, ast.FunctionDef)}
            if isinstance(node, ast.Attribute) and isinstance(node.ctx, ast.Store):
                names.add(node.attr)
    return names


def faults_of(text, own):
    """All faults that are seen in one file."""
    tree = ast.parse(text)
    faults = faults_of_text(text) + faults_of_top(tree)
    for node in ast.walk(tree):
        faults += faults_of_node(node, own)
    return faults


class Language(unittest.TestCase):

    def test_the_folder_holds_python_files_alone(self):
        for path in PACKAGE.iterdir():
            if path.name != "__pycache__":
                self.assertRegex(path.name, r"^(__init__|__main__|[a-z][a-z0-9_]*)\.py$")

    def test_each_file_keeps_to_the_rules(self):
        texts = {path.name: path.read_text(encoding="utf-8") for path in sorted(PACKAGE.glob("*.py"))}
        own = own_names([ast.parse(text) for text in texts.values()])
        for name, text in texts.items():
            self.assertEqual(faults_of(text, own), [], name)

    def test_no_two_files_draw_from_one_another(self):
        draws = {}
        for path in PACKAGE.glob("*.py"):
            tree = ast.parse(path.read_text(encoding="utf-8"))
            modules = [node.module for node in tree.body if isinstance(node, ast.ImportFrom)]
            draws["chordbed." + path.stem] = [one for one in modules if one != "__future__"]
        while draws:
            free = [one for one in draws if not any(other in draws for other in draws[one])]
            self.assertTrue(free, draws)
            for one in free:
                draws.pop(one)

    def test_faults_are_seen(self):
        bad = (
            "import os", "from .errors import NoFrame", "X = 1\nX = 2", "print(1)", "def f(*xs):\n    pass",
            "def f(list):\n    pass", "def f(x):\n    return x / 2", "def f(x):\n    return 2 ** x",
            "def f(x):\n    return {y for y in x}", "def f(x):\n    return x is 'a'", "def f(x):\n    x.sort()",
            "def f(x):\n    a = b = x", "class A:\n    x = 1", "def f(x):\n    with x:\n        pass",
            "def f(x):\n    return chr(x)", "# a type", "X = 1.5", "def f(_x):\n    return _x",
            "def f(x):\n    return " + "x + " * 40 + "x", "def f(x):\n" + "    x = 1\n" * 40,
        )
        for text in bad:
            self.assertTrue(faults_of(text, set()), text)


if __name__ == "__main__":
    unittest.main()
