"""The package's form: what tests/language_rules.py sees of ../shared/LANGUAGE.md in each file."""

import ast
import re
import unittest
from pathlib import Path

from tests.language_rules import Package

FOLDER = Path(__file__).resolve().parent.parent / "chordbed"


def texts_of_package():
    """The text of each file of the package, by its name."""
    return {path.name: path.read_text(encoding="utf-8") for path in sorted(FOLDER.glob("*.py"))}


class Language(unittest.TestCase):

    def test_the_folder_holds_python_files_alone(self):
        names = [path.name for path in FOLDER.iterdir() if path.name != "__pycache__"]
        self.assertEqual(sorted(names), sorted(texts_of_package()))
        self.assertIn("__init__.py", names)
        for path in FOLDER.iterdir():
            self.assertTrue(path.is_file() or path.name == "__pycache__", path)

    def test_each_file_keeps_to_the_rules(self):
        self.assertEqual(Package(texts_of_package()).faults(), [])

    def test_no_two_files_draw_from_one_another(self):
        draws = {}
        for name, text in texts_of_package().items():
            modules = [node.module for node in ast.parse(text).body if isinstance(node, ast.ImportFrom)]
            draws["chordbed." + name.rpartition(".")[0]] = [one for one in modules if one != "__future__"]
        while draws:
            free = [one for one in draws if not any(other in draws for other in draws[one])]
            self.assertTrue(free, draws)
            for one in free:
                draws.pop(one)

    def test_the_init_file_binds_nothing(self):
        tree = ast.parse(texts_of_package()["__init__.py"])
        self.assertEqual([type(node) for node in tree.body], [ast.Expr])


def within(line):
    """A function whose one line that is."""
    return "def f(x):\n    " + line


# Code that breaks a rule, with the rule's number.
BAD = (
    ("L2", "import os"), ("L2", "from .errors import NoFrame"), ("L2", "from math import gcd"),
    ("L2", "from chordbed import errors"), ("L2", within("from chordbed.errors import NoFrame")),
    ("L2", "X = 1\nfrom chordbed.errors import NoFrame"), ("L3", "print(1)"), ("L3", "X = 1 + 1"), ("L3", "X = []"),
    ("L3", "if True:\n    pass"), ("L4", "def f(*xs):\n    pass"), ("L4", "def f(**xs):\n    pass"),
    ("L4", "def f(*, x):\n    pass"), ("L4", "def f(x=[]):\n    pass"), ("L4", "def f(x):\n    return lambda *y: y"),
    ("L4", "def g(x):\n    pass\n\n\n@g\ndef f(x):\n    pass"), ("L5", "class A:\n    x = 1"),
    ("L5", "class A(list):\n    pass"), ("L5", "class A(ValueError, KeyError):\n    pass"),
    ("L6", within("a = b = x")), ("L6", within("with x:\n        pass")), ("L6", within("assert x")),
    ("L6", within("del x")), ("L6", within("x")), ("L6", within("for y in x:\n        pass\n    else:\n        pass")),
    ("L6", within("try:\n        x()\n    finally:\n        x()")), ("L6", within("global y")),
    ("L7", within("return x / 2")), ("L7", within("return {y for y in x}")), ("L7", within("return {y: y for y in x}")),
    ("L7", within("return [*x]")), ("L7", within("return (y for y in x)")), ("L7", within("return (y := x)")),
    ("L7", "X = 1.5"), ("L7", "X = b'a'"), ("L7", within("return [y for z in x for y in z]")),
    ("L7", within("return f'{x.y}'")), ("L7", within("return f'{x:3}'")), ("L7", within("return {**x}")),
    ("L7", within("return ...")), ("L8", within("return map(x)")), ("L8", within("print(x)")),
    ("L8", "def filter(x):\n    pass"), ("L10", within("return " + "x + " * 40 + "x")),
    ("L10", "def f(x):\n" + "    x = 1\n" * 40), ("L10", "# so\n" * 401), ("L12", "def f(_x):\n    pass"),
    ("L12", within("_y = x")), ("L12", "def _f(x):\n    pass"), ("L13", within("return (lambda y: y, lambda y: x)")),
    ("L14", "X = 'caf\u00e9'"), ("L14", "X =\t1"), ("L15", "X = 1\nX = 2"), ("L15", "def f(list):\n    pass"),
    ("L15", within("min = x")), ("L15", "from chordbed.errors import NoBed\n\n\ndef f(NoBed):\n    pass"),
    ("L15", within("class A:\n        pass")), ("L16", "from chordbed.texts import checked"),
    ("L16", "from chordbed.errors import NoSuch"), ("L17", "# a type"), ("L17", within("return open(x)")),
    ("L17", within("return x.f_back")), ("L17", within("return x.mro")), ("L17", "X = 'dataclasses'"),
    ("L18", "class A:\n    pass\n\n\ndef f(x):\n    return [A]"), ("L18", within("return [x, ValueError]")),
    ("L18", "class A:\n    def f(self):\n        pass\n\n    def f(self):\n        pass"),
    ("L18", "class A:\n    def f(self):\n        pass\n\n\nclass B:\n    def __init__(self):\n        self.f = 1"),
    ("L18", "class A(AttributeError):\n    pass"), ("L18", "X = 1\n\n\ndef f(x):\n    X.word = x"),
    ("L19", within("try:\n        x()\n    except Exception:\n        pass")),
    ("L19", within("try:\n        x()\n    except ValueError:\n        pass")),
    ("L19", within("try:\n        x()\n    except:\n        pass")), ("L19", within("raise x")),
    ("L19", within("raise ValueError(x)")), ("L20", within("return x is 'a'")), ("L21", "def f(x: int):\n    pass"),
    ("L21", "def f(x) -> int:\n    pass"), ("L22", within("return [len]")),
    ("L22", within("return sorted(x, key=list)")),
    ("L22", within("return isinstance(x, set)")), ("L22", within("return int(x, base=2)")),
    ("L22", within("return x.split(sep='a')")), ("L22", within("return sorted(x, reverse=x)")),
    ("L23", within("return zip(x, x)")), ("L23", within("y = range(3)")), ("L23", within("return 1 in x.values()")),
    ("L23", within("for y in x:\n        x.append(y)")), ("L23", within("for y in enumerate(x):\n        x[0] = y")),
    ("L23", within("for y in x.items():\n        x.pop(y)")), ("L24", within("y = set(x)")),
    ("L24", within("for y in set(x):\n        pass")), ("L24", within("return {1, 2}")),
    ("L24", within("return sorted(set(x), reverse=True)")), ("L25", within("x.sort()")), ("L25", within("x.y()")),
    ("L25", within("return x.append")), ("L26", "class A:\n    def sort(self):\n        pass"),
    ("L26", "class A:\n    def __init__(self):\n        self.keys = 1"), ("L27", within("return 2 ** x")),
    ("L27", within("return x ** 65")), ("L27", "X = '%'"), ("L27", "X = '\\r'"), ("L27", "X = '\\x41'"),
    ("L27", within("x = \\\n        1")), ("L28", "class A:\n    def __init__(self):\n        return None"),
    ("L28", "class A:\n    def __init__(self):\n        return 1"),
)

GOOD = (
    within("return sorted(set(x) - set(x))"), within("return x in {1, 2, 3}"), within("return len(set(x)) == 3"),
    within("return [y for y in zip(x, x[1:]) if y]"), within("return ', '.join(x.keys())"),
    within("for y in list(x):\n        x.pop(y)"), within("return sorted(x, key=len, reverse=True)"),
    within("return max([y for y in x], default=0)"), within("return x is None or isinstance(x, (int, str))"),
    within("return f'{x} and {x!r}'"), within("y = x ** 2\n    y += 1\n    return -y"),
    within("try:\n        return x[0]\n    except KeyError:\n        return None"), "X = (1, 'a', (None, -2))",
    "class A(ValueError):\n    '''So.'''\n\n    def __init__(self, word):\n        ValueError.__init__(self, word)",
    "from chordbed.errors import NoBed\n\n\ndef f(x):\n    raise NoBed(x, None)",
)


class TheWalkItself(unittest.TestCase):
    """That the walk over the code sees what breaks a rule, and lets stand what breaks none."""

    def faults(self, text):
        """The faults of a package with one more file."""
        texts = texts_of_package()
        texts["one_more.py"] = text
        package = Package(texts)
        return package.faults_between_classes() + package.faults_of_file("one_more.py")

    def test_faults_are_seen(self):
        for rule, text in BAD:
            with self.subTest(rule=rule, text=text):
                rules = [one for fault in self.faults(text) for one in re.findall(r"\bL[0-9]+\b", fault)]
                self.assertIn(rule, rules)

    def test_what_is_right_is_let_stand(self):
        for text in GOOD:
            with self.subTest(text=text):
                self.assertEqual(self.faults(text), [])

    def test_file_names(self):
        wrong = ("Big.py", "test.py", "test_a.py", "site.py", "len.py", "filter.py", "typing.py", "a-b.py", "_a.py")
        for name in wrong:
            faults = Package({name: ""}).faults()
            self.assertTrue(any(fault.startswith("L14") for name, fault in faults), name)
        self.assertEqual(Package({"plain.py": "", "__init__.py": ""}).faults(), [])


if __name__ == "__main__":
    unittest.main()
