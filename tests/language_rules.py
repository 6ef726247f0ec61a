"""The rules of ../shared/LANGUAGE.md that a walk over the code can hold, where need be narrower than told.

A rule that needs a reader (small functions, plain names, what a comment says) is left to the reader.
Each fault is told as a text that begins with the rule's number.
"""

import ast
import builtins
import re

STATEMENTS = (
    ast.Assign, ast.AugAssign, ast.If, ast.While, ast.For, ast.Return, ast.Break, ast.Continue,
    ast.Pass, ast.Raise, ast.Try, ast.Expr, ast.FunctionDef, ast.ClassDef, ast.ImportFrom,
)
EXPRESSIONS = (
    ast.Constant, ast.List, ast.Tuple, ast.Dict, ast.Set, ast.BinOp, ast.UnaryOp, ast.BoolOp, ast.Compare,
    ast.IfExp, ast.Call, ast.Attribute, ast.Subscript, ast.Slice, ast.ListComp, ast.JoinedStr, ast.FormattedValue,
    ast.Name, ast.Lambda,
)
KINDS = set("int str bool list tuple dict".split())
CALLED = KINDS | set((
    "len range enumerate zip min max sum abs sorted reversed set frozenset isinstance ord repr any all divmod"
).split())
ERRORS = set((
    "Exception ValueError TypeError KeyError IndexError LookupError ZeroDivisionError ArithmeticError OverflowError "
    "RuntimeError NotImplementedError AttributeError StopIteration"
).split())
TAKEN_FREELY = set("KeyError ZeroDivisionError StopIteration".split())
METHODS = set((
    "append clear copy count endswith extend find get index insert isalnum isalpha isdigit islower isspace isupper "
    "items join keys ljust lower lstrip partition pop remove replace reverse rfind rjust rpartition rsplit rstrip "
    "setdefault split splitlines startswith strip update upper values zfill bit_length"
).split())
CHANGERS = set("append clear extend insert pop remove reverse setdefault update".split())
OWN_METHODS_TOO = METHODS | {"add", "discard"}
OWN_VALUES_TOO = set("count index title find get join lower upper split strip copy add".split())
PYTHONS_OWN = set().union(*[dir(kind) for kind in (str, int, list, tuple, dict, set, frozenset, bytes)])
KEYWORDS = {
    "sorted": ("key", "reverse"), "min": ("key", "default"), "max": ("key", "default"),
    "sum": ("start",), "enumerate": ("start",), "zip": ("strict",),
}
KEY_NAMES = set("len int str abs sum min max tuple".split())
WALKED = set("zip enumerate reversed range".split())
WALKED_METHODS = set("items keys values".split())
WALKERS = set("list tuple dict sorted sum any all enumerate zip".split())
FORBIDDEN_NAMES = set((
    "register mro elements open input version_info with_traceback add_note attrgetter breakpoint builtins compile "
    "copyright credits delattr dir eval exec exit gc getattr globals hasattr help id importlib license locals "
    "methodcaller os quit setattr super type vars sys __name__ format format_map chr"
).split())
FRAMES = re.compile(r"^(f|tb|co|gi|cr|ag)_[a-z]+$")
FORBIDDEN_WORDS = re.compile(
    r"\b(type|typing|typing_extensions|enum|Enum|IntEnum|StrEnum|Flag|IntFlag|Generic|Protocol|ABC|ABCMeta|"
    r"namedtuple|NamedTuple|TypedDict|TYPE_CHECKING|abstractmethod)\b|dataclass|overload|contextmanager"
)
ESCAPE = re.compile(r"\\(\\|.|$)")
FILE_NAME = re.compile(r"^[a-z][a-z0-9_]*\.py$")
FORBIDDEN_FILES = re.compile(
    r"^(tests?|testing|test_.*|site|conftest|sitecustomize|usercustomize|typing|typing_extensions|enum|type)$"
)


def name_of(node):
    """The name that a node is, None where it is none."""
    return node.id if isinstance(node, ast.Name) else None


def called_name(node):
    """The name that is called there, None where none is."""
    return name_of(node.func) if isinstance(node, ast.Call) else None


def called_method(node):
    """The method that is called there, None where none is."""
    return node.func.attr if isinstance(node, ast.Call) and isinstance(node.func, ast.Attribute) else None


def names_of_top(tree):
    """The names that a file defines itself, without its imports."""
    names = set()
    for node in tree.body:
        if isinstance(node, (ast.FunctionDef, ast.ClassDef)):
            names.add(node.name)
        if isinstance(node, ast.Assign):
            names |= {name_of(target) for target in node.targets}
    return names


class Package:
    """All files of a package, by their names, and what they bind."""

    def __init__(self, texts):
        self.texts = texts
        self.trees = {name: ast.parse(text) for name, text in texts.items()}
        self.classes = {}
        self.values = set()
        for tree in self.trees.values():
            for node in ast.walk(tree):
                if isinstance(node, ast.ClassDef):
                    self.classes[node.name] = node
                if isinstance(node, ast.Attribute) and isinstance(node.ctx, ast.Store):
                    self.values.add(node.attr)
        self.methods = set()
        for node in self.classes.values():
            self.methods |= {part.name for part in node.body if isinstance(part, ast.FunctionDef)}

    def defined(self, module):
        """The names that a module defines itself."""
        name = module.split(".")[-1] + ".py"
        return names_of_top(self.trees[name]) if name in self.trees else set()

    def faults(self):
        """All faults of all files, each with its file's name."""
        found = [("the package", fault) for fault in self.faults_between_classes()]
        for name in self.texts:
            found += [(name, fault) for fault in self.faults_of_file(name)]
        return found

    def faults_of_file(self, name):
        """All faults of one file by itself."""
        return faults_of_file_name(name) + File(self, name).faults()

    def faults_between_classes(self):
        """L18, L26: the names of methods and values, over all files."""
        faults = [f"L18 {name} is a method and a value" for name in sorted(self.methods & self.values)]
        for name in sorted(self.methods - {"__init__"}):
            if name in PYTHONS_OWN - OWN_METHODS_TOO:
                faults.append(f"L26 method {name}")
        for name in sorted(self.values):
            if name in (PYTHONS_OWN | {"args"}) - OWN_VALUES_TOO:
                faults.append(f"L26 value {name}")
        return faults


def faults_of_file_name(name):
    """L1, L14: what a file may be called."""
    stem = name.rpartition(".")[0]
    if name == "__init__.py":
        return []
    if not FILE_NAME.match(name) or FORBIDDEN_FILES.match(stem) or hasattr(builtins, stem):
        return [f"L14 file {name}"]
    return []


class File:
    """One file of a package, and the walk over it."""

    def __init__(self, package, name):
        self.package = package
        self.text = package.texts[name]
        self.tree = package.trees[name]
        self.parents = {}
        for node in ast.walk(self.tree):
            for child in ast.iter_child_nodes(node):
                self.parents[child] = node
        self.imports = set()
        for node in self.tree.body:
            if isinstance(node, ast.ImportFrom):
                self.imports |= {alias.asname or alias.name for alias in node.names}
        self.own_classes = {node.name for node in self.tree.body if isinstance(node, ast.ClassDef)}

    def faults(self):
        """All faults that are seen in this file."""
        faults = faults_of_text(self.text) + self.faults_of_top()
        walks = (
            (ast.stmt, self.of_statement), (ast.expr, self.of_expression), (ast.FunctionDef, self.of_function),
            (ast.ClassDef, self.of_class), (ast.Name, self.of_name), (ast.Attribute, self.of_attribute),
            (ast.Call, self.of_call), (ast.Lambda, self.of_lambda), (ast.ExceptHandler, self.of_handler),
            (ast.Raise, self.of_raise), (ast.For, self.of_loop), (ast.BinOp, self.of_operator),
            (ast.Compare, self.of_comparison), (ast.Set, self.of_set),
        )
        for node in ast.walk(self.tree):
            for kind, walk in walks:
                if isinstance(node, kind):
                    faults += [f"{fault}, line {getattr(node, 'lineno', 0)}" for fault in walk(node)]
        return faults

    def faults_of_top(self):
        """L2, L3, L15, L16: the top of a file."""
        faults = []
        bound = []
        imports_end = False
        for place, node in enumerate(self.tree.body):
            if isinstance(node, ast.ImportFrom):
                faults += self.of_import(node) + (["L2 an import below the top"] if imports_end else [])
                bound += [alias.asname or alias.name for alias in node.names]
                continue
            docstring = isinstance(node, ast.Expr) and isinstance(node.value, ast.Constant) and place == 0
            imports_end = imports_end or not docstring
            if isinstance(node, (ast.FunctionDef, ast.ClassDef)):
                bound.append(node.name)
            elif isinstance(node, ast.Assign) and self.is_plain(node.value, bound):
                bound += [name_of(target) for target in node.targets]
            elif not docstring:
                faults.append(f"L3 line {node.lineno}")
        if len(bound) != len(set(bound)):
            faults.append("L15 a name is bound twice")
        lambdas = [node.lineno for node in ast.walk(self.tree) if isinstance(node, ast.Lambda)]
        if len(lambdas) != len(set(lambdas)):
            faults.append("L13 two lambdas on one line")
        return faults

    def is_plain(self, node, bound):
        """Whether a top's value is plain; lists and dicts are left out, so nothing is kept there (L15)."""
        if isinstance(node, ast.Tuple):
            return all(self.is_plain(part, bound) for part in node.elts)
        if isinstance(node, ast.UnaryOp) and isinstance(node.op, ast.USub):
            return isinstance(node.operand, ast.Constant)
        return isinstance(node, ast.Constant) or name_of(node) in bound

    def of_import(self, node):
        """L2, L16: the package's own modules, and names that they define themselves."""
        if node.level or not re.fullmatch(r"chordbed\.[a-z][a-z0-9_]*", node.module or ""):
            return [f"L2 import in line {node.lineno}"]
        defined = self.package.defined(node.module)
        wrong = [alias.name for alias in node.names if alias.name not in defined or alias.asname]
        return [f"L16 {name} of {node.module}" for name in wrong]

    def of_statement(self, node):
        """L6, L2, L21: statements."""
        faults = []
        if not isinstance(node, STATEMENTS):
            faults.append("L6 statement")
        if isinstance(node, ast.Import):
            faults.append("L2 import")
        if isinstance(node, ast.ImportFrom) and self.parents[node] is not self.tree:
            faults.append("L2 an import below the top")
        if isinstance(node, (ast.For, ast.While)) and node.orelse:
            faults.append("L6 else behind a loop")
        if isinstance(node, ast.Try) and node.finalbody:
            faults.append("L6 finally")
        if isinstance(node, ast.Assign) and len(node.targets) > 1:
            faults.append("L6 targets")
        if isinstance(node, ast.Expr) and not isinstance(node.value, ast.Call) and not self.is_docstring(node):
            faults.append("L6 an expression by itself")
        return faults

    def is_docstring(self, node):
        """Whether a text stands first in a file, class or function."""
        around = self.parents[node]
        if not isinstance(around, (ast.Module, ast.ClassDef, ast.FunctionDef)) or around.body[0] is not node:
            return False
        if not isinstance(node, ast.Expr) or not isinstance(node.value, ast.Constant):
            return False
        return isinstance(node.value.value, str)

    def of_expression(self, node):
        """L7, L23, L27: expressions and values."""
        faults = []
        if not isinstance(node, EXPRESSIONS):
            faults.append("L7 expression")
        if isinstance(node, ast.ListComp) and (len(node.generators) > 1 or len(node.generators[0].ifs) > 1):
            faults.append("L7 comprehension")
        if isinstance(node, ast.Dict) and None in node.keys:
            faults.append("L7 star")
        if isinstance(node, ast.FormattedValue):
            if not isinstance(node.value, ast.Name) or node.conversion not in (-1, ord("r")) or node.format_spec:
                faults.append("L7 f-string")
        if isinstance(node, ast.Constant) and not isinstance(node.value, (int, str, type(None))):
            faults.append("L7 value")
        if isinstance(node, ast.Constant) and isinstance(node.value, str) and chr(37) in node.value:
            faults.append("L27 text")
        if isinstance(node, ast.Constant) and isinstance(node.value, int) and node.value >= 10 ** 900:
            faults.append("L27 number")
        return faults

    def of_function(self, node):
        """L4, L5, L10, L12, L15, L21: a function's head and size."""
        faults = of_name_bound(node.name)
        if hasattr(builtins, node.name) and not isinstance(self.parents[node], ast.ClassDef):
            faults.append("L8 a name of Python's own")
        if node.decorator_list:
            faults.append("L4 decorator")
        if node.returns or any(one.annotation for one in node.args.args):
            faults.append("L21 annotation")
        if node.end_lineno - node.lineno >= 40:
            faults.append("L10 more than 40 lines")
        if node.name == "__init__" and any(isinstance(part, ast.Return) and part.value for part in ast.walk(node)):
            faults.append("L28 __init__ gives something back")
        return faults + self.of_parameters(node.args)

    def of_lambda(self, node):
        """L4: a lambda's head."""
        return self.of_parameters(node.args)

    def of_parameters(self, given):
        """L4, L12, L15: parameters."""
        faults = []
        if given.vararg or given.kwarg or given.kwonlyargs or given.posonlyargs:
            faults.append("L4 parameters")
        if not all(self.is_plain(value, ()) for value in given.defaults):
            faults.append("L4 defaults")
        for one in given.args:
            faults += of_name_bound(one.arg) + self.of_local(one.arg)
        return faults

    def of_local(self, name):
        """L15: what no parameter and no local is called."""
        if name in self.imports | self.own_classes or hasattr(builtins, name):
            return [f"L15 local {name}"]
        return []

    def of_class(self, node):
        """L5, L15, L18, L28: a class; of the methods with two underscores __init__ alone."""
        faults = of_name_bound(node.name)
        if self.parents[node] is not self.tree:
            faults.append("L15 a class below the top")
        if node.decorator_list or len(node.bases) > 1 or node.keywords:
            faults.append("L5 head")
        for base in node.bases:
            if name_of(base) not in set(self.package.classes) | ERRORS - {"StopIteration", "AttributeError"}:
                faults.append("L5, L18 base")
        names = [part.name for part in node.body if isinstance(part, ast.FunctionDef)]
        if len(names) != len(set(names)):
            faults.append("L18 a method stands twice")
        if not all(isinstance(part, (ast.FunctionDef, ast.Pass)) or self.is_docstring(part) for part in node.body):
            faults.append("L5 body")
        return faults

    def of_name(self, node):
        """L8, L12, L15, L17, L18, L22: a name where it stands."""
        name = node.id
        around = self.parents[node]
        if name in FORBIDDEN_NAMES or name.startswith("_") or FRAMES.match(name):
            return [f"L12, L17 name {name}"]
        if not isinstance(node.ctx, ast.Load):
            return self.of_local(name)
        if hasattr(builtins, name) and name not in CALLED | ERRORS:
            return [f"L8 name {name}"]
        is_called = isinstance(around, ast.Call) and around.func is node
        is_key = isinstance(around, ast.keyword) and around.arg == "key" and name in KEY_NAMES
        if name in CALLED and not is_called and not is_key and not self.is_asked(node):
            return [f"L22 {name} is kept"]
        if name in set(self.package.classes) | ERRORS and not is_called and not self.is_class_place(node):
            return [f"L18 class {name} is kept"]
        return []

    def is_asked(self, node):
        """Whether a class is what isinstance asks for."""
        around = self.parents[node]
        if isinstance(around, ast.Tuple):
            node, around = around, self.parents[around]
        return called_name(around) == "isinstance" and around.args[1:] == [node]

    def is_class_place(self, node):
        """Whether a class may stand there though it isn't called."""
        around = self.parents[node]
        if isinstance(around, ast.Attribute):
            return around.attr == "__init__"
        if isinstance(around, ast.Tuple):
            return isinstance(self.parents[around], ast.ExceptHandler) or self.is_asked(node)
        return isinstance(around, (ast.ClassDef, ast.ExceptHandler)) or self.is_asked(node)

    def of_attribute(self, node):
        """L8, L17, L18, L25: an attribute."""
        name = node.attr
        around = self.parents[node]
        if name in FORBIDDEN_NAMES or FRAMES.match(name) or (name.startswith("_") and name != "__init__"):
            return [f"L17 attribute {name}"]
        if isinstance(node.ctx, ast.Store) and (not isinstance(node.value, ast.Name) or not self.is_local(node.value)):
            return [f"L18 {name} is given to no local name"]
        if name in self.package.values:
            return []
        if name not in METHODS | self.package.methods:
            return [f"L25 attribute {name}"]
        is_called = isinstance(around, ast.Call) and around.func is node
        if not is_called and not (isinstance(around, ast.keyword) and around.arg == "key"):
            return [f"L25 method {name} is handed on"]
        return []

    def is_local(self, node):
        """Whether a name is none of the file's top."""
        return node.id not in self.imports | names_of_top(self.tree)

    def of_call(self, node):
        """L22, L23: Python's own as they are called, and walked at once."""
        faults = []
        name, method = called_name(node), called_method(node)
        allowed = [keyword.arg for keyword in node.keywords]
        if name in CALLED | ERRORS or name in self.package.classes:
            if name not in self.package.classes or self.is_error(name):
                allowed = KEYWORDS.get(name, ())
        if method in METHODS:
            allowed = ()
        if not all(keyword.arg in allowed for keyword in node.keywords):
            faults.append("L22 keyword")
        for keyword in node.keywords:
            if keyword.arg in ("reverse", "strict") and not isinstance(keyword.value, ast.Constant):
                faults.append("L22 keyword")
        if name == "isinstance" and not self.is_kind(node.args[1]):
            faults.append("L22 isinstance")
        if (name in WALKED or method in WALKED_METHODS) and not self.is_walked(node):
            faults.append("L23 not walked at once")
        if name in ("set", "frozenset"):
            faults += self.of_set(node)
        return faults

    def is_error(self, name):
        """Whether a class of the package is an error class."""
        bases = self.package.classes[name].bases
        return bool(bases) and (name_of(bases[0]) in ERRORS or self.is_error(name_of(bases[0])))

    def is_kind(self, node):
        """Whether isinstance may ask for that."""
        if isinstance(node, ast.Tuple):
            return all(self.is_kind(part) for part in node.elts)
        return name_of(node) in KINDS | ERRORS | set(self.package.classes)

    def is_walked(self, node):
        """Whether what a call gives is walked on the spot."""
        around = self.parents[node]
        if isinstance(around, (ast.For, ast.comprehension)):
            return around.iter is node
        if called_name(around) in WALKERS:
            return around.args[0] is node
        if called_name(around) in ("min", "max"):
            return around.args == [node]
        return called_method(around) == "join" and isinstance(around.func.value, ast.Constant)

    def of_set(self, node):
        """L24: a set stands beside in, == or !=, or straight within sorted or len."""
        around = self.parents[node]
        while isinstance(around, ast.BinOp):
            around = self.parents[around]
        if isinstance(around, ast.Compare):
            return []
        if called_name(around) in ("sorted", "len") and not around.keywords:
            return []
        return ["L24 a set is kept"]

    def of_handler(self, node):
        """L6, L12, L19: what is taken; of Python's own errors those alone that may be taken anywhere."""
        faults = [] if node.name is None else of_name_bound(node.name) + self.of_local(node.name)
        taken = node.type.elts if isinstance(node.type, ast.Tuple) else [node.type]
        for one in taken:
            if name_of(one) not in set(self.package.classes) | TAKEN_FREELY:
                faults.append("L19 what is taken")
        return faults

    def of_raise(self, node):
        """L19: an error of the program's own, made on the spot."""
        faults = []
        if called_name(node.exc) not in self.package.classes:
            faults.append("L19 raise")
        if node.cause is not None and not isinstance(node.cause, (ast.Name, ast.Constant)):
            faults.append("L19 raise from")
        return faults

    def of_loop(self, node):
        """L23: what a loop walks is not changed in it."""
        walked = [node.iter]
        for one in walked:
            if called_name(one) in WALKED | {"list"}:
                # A copy may be walked while the list itself is changed.
                walked += one.args if called_name(one) != "list" else []
            if called_method(one) in WALKED_METHODS:
                walked.append(one.func.value)
        texts = {ast.unparse(one) for one in walked if isinstance(one, (ast.Name, ast.Attribute))}
        faults = []
        for part in [inner for statement in node.body for inner in ast.walk(statement)]:
            if called_method(part) in CHANGERS and ast.unparse(part.func.value) in texts:
                faults.append("L23 a loop changes what it walks")
            if isinstance(part, ast.Subscript) and isinstance(part.ctx, ast.Store):
                if ast.unparse(part.value) in texts:
                    faults.append("L23 a loop changes what it walks")
        return faults

    def of_operator(self, node):
        """L7, L27: operators."""
        if isinstance(node.op, (ast.Div, ast.MatMult)):
            return ["L7 operator"]
        if isinstance(node.op, ast.Pow):
            if not isinstance(node.right, ast.Constant) or node.right.value not in range(65):
                return ["L27 power"]
        return []

    def of_comparison(self, node):
        """L20: is."""
        sides = [node.left] + node.comparators
        for operator, left, right in zip(node.ops, sides, sides[1:]):
            if isinstance(operator, (ast.Is, ast.IsNot)):
                if not {ast.unparse(left), ast.unparse(right)} & {"None", "True", "False"}:
                    return ["L20 is"]
        return []


def of_name_bound(name):
    """L8, L12, L17: a name that is given to a function, a class, a parameter or an error."""
    if name in FORBIDDEN_NAMES or FRAMES.match(name) or (name.startswith("_") and name != "__init__"):
        return [f"L12, L17 name {name}"]
    return []


def faults_of_text(text):
    """L10, L14, L17, L27: what is seen in the signs alone."""
    faults = []
    lines = text.split("\n")
    if len(lines) > 401:
        faults.append("L10 more than 400 lines")
    for number, line in enumerate(lines, start=1):
        if len(line) > 120:
            faults.append(f"L10 line {number} is long")
        if any(not " " <= sign <= "~" for sign in line):
            faults.append(f"L14 sign in line {number}")
        if FORBIDDEN_WORDS.search(line):
            faults.append(f"L17 word in line {number}")
        if any(escape not in ("n", "t", "\\", "'", '"') for escape in ESCAPE.findall(line)):
            faults.append(f"L27 escape in line {number}")
    return faults
