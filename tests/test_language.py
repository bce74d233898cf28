"""The part of Python that the package keeps to: those rules that can be read off the files.

It does not stand for LANGUAGE.md as a whole; it finds the slips that are made most easily.
"""

import ast
import builtins
import pathlib
import re
import unittest

PACKAGE = pathlib.Path(__file__).resolve().parent.parent / "twinwires"

OWN_NAMES = set("""len range enumerate zip min max sum abs sorted reversed int str bool list tuple dict set
    frozenset isinstance ord repr any all divmod Exception ValueError TypeError KeyError IndexError LookupError
    ZeroDivisionError ArithmeticError OverflowError RuntimeError NotImplementedError AttributeError
    StopIteration""".split())
OWN_METHODS = set("""append clear copy count endswith extend find get index insert isalnum isalpha isdigit islower
    isspace isupper items join keys ljust lower lstrip partition pop remove replace reverse rfind rjust
    rpartition rsplit rstrip setdefault split splitlines startswith strip update upper values zfill
    bit_length""".split())
TWO_UNDERSCORES = {"__init__", "__eq__", "__repr__", "__str__", "__len__"}
WORDS = re.compile(r"\b(type|typing|typing_extensions|enum|Enum|IntEnum|StrEnum|Flag|IntFlag|Generic|Protocol|ABC"
                   r"|ABCMeta|namedtuple|NamedTuple|TypedDict|TYPE_CHECKING|abstractmethod)\b"
                   r"|dataclass|overload|contextmanager")
NODES = set("""Module ImportFrom alias FunctionDef arguments arg Lambda ClassDef Assign AugAssign If While For Return
    Break Continue Pass Raise Try ExceptHandler Expr Call Name Constant List Tuple Dict Set BinOp UnaryOp BoolOp
    Compare IfExp Attribute Subscript Slice ListComp comprehension JoinedStr FormattedValue keyword Load Store
    Add Sub Mult FloorDiv Mod Pow BitAnd BitOr BitXor LShift RShift Invert USub UAdd Not And Or Eq NotEq Lt LtE Gt GtE
    Is IsNot In NotIn""".split())
TOP_NODES = (ast.ImportFrom, ast.FunctionDef, ast.ClassDef, ast.Assign)


def faults_of_text(text):
    faults = []
    lines = text.split("\n")
    if len(lines) > 401:
        faults.append("L10 a file of more than 400 lines")
    for number, line in enumerate(lines, 1):
        if len(line) > 120:
            faults.append(f"L10 line {number} is too long")
        if any(not " " <= sign <= "~" for sign in line):
            faults.append(f"L14 line {number} has a sign that is none of the plain ones")
        if WORDS.search(line):
            faults.append(f"L17 line {number} has a word that is not used")
    return faults


def faults_of_top(tree):
    faults = []
    for place, node in enumerate(tree.body):
        docstring = place == 0 and isinstance(node, ast.Expr) and isinstance(node.value, ast.Constant)
        if not docstring and not isinstance(node, TOP_NODES):
            faults.append(f"L3 line {node.lineno} doesn't stand at a file's top")
    bound = [name for node in tree.body for name in names_bound(node)]
    faults += [f"L15 {name} is bound twice" for name in sorted(set(bound)) if bound.count(name) > 1]
    return faults


def names_bound(node):
    if isinstance(node, (ast.FunctionDef, ast.ClassDef)):
        return [node.name]
    if isinstance(node, ast.ImportFrom):
        return [alias.asname or alias.name for alias in node.names]
    if isinstance(node, ast.Assign):
        return [target.id for target in node.targets if isinstance(target, ast.Name)]
    return []


def faults_of_node(node):
    name = type(node).__name__
    told = {
        ast.FunctionDef: faults_of_def, ast.ClassDef: faults_of_class, ast.ImportFrom: faults_of_import,
        ast.Assign: faults_of_assign, ast.Expr: faults_of_call_by_itself, ast.Name: faults_of_name,
        ast.arg: faults_of_arg, ast.Attribute: faults_of_attribute, ast.Constant: faults_of_constant,
        ast.Compare: faults_of_compare, ast.Try: faults_of_try, ast.For: faults_of_loop, ast.While: faults_of_loop,
        ast.ListComp: faults_of_comprehension,
    }.get(type(node))
    faults = [] if name in NODES else [f"L6, L7: {name} is not used"]
    return faults + (told(node) if told else [])


def faults_of_def(node):
    faults = plain(node.name)
    if node.end_lineno - node.lineno + 1 > 40:
        faults.append(f"L10 {node.name} has more than 40 lines")
    if node.decorator_list or node.args.vararg or node.args.kwarg or node.args.kwonlyargs or node.args.posonlyargs:
        faults.append(f"L4 {node.name} has a decorator or parameters that aren't plain")
    if node.returns:
        faults.append(f"L21 {node.name} is annotated")
    return faults


def faults_of_class(node):
    faults = plain(node.name)
    if len(node.bases) > 1 or node.keywords or node.decorator_list:
        faults.append(f"L5 {node.name} has more than a base")
    if any(not isinstance(part, (ast.FunctionDef, ast.Pass)) for part in node.body):
        faults.append(f"L5 {node.name} has more than methods")
    return faults


def faults_of_import(node):
    if node.level or not (node.module or "").startswith("twinwires."):
        return [f"L2 line {node.lineno} draws from another place"]
    path = PACKAGE / (node.module.split(".", 1)[1] + ".py")
    if not path.exists():
        return [f"L16 {node.module} is no file of the package"]
    defined = [name for part in ast.parse(path.read_text()).body if not isinstance(part, ast.ImportFrom)
               for name in names_bound(part)]
    return [f"L16 {alias.name} is not defined in {node.module}" for alias in node.names if alias.name not in defined]


def faults_of_assign(node):
    # A tuple of targets is more than one.
    if len(node.targets) > 1 or isinstance(node.targets[0], (ast.Tuple, ast.List)):
        return [f"L6 line {node.lineno} has more than one target"]
    return []


def faults_of_call_by_itself(node):
    text = isinstance(node.value, ast.Constant) and isinstance(node.value.value, str) and node.col_offset == 0
    return [] if text or isinstance(node.value, ast.Call) else [f"L6 line {node.lineno} is no statement"]


def plain(name):
    if name.startswith("_") and name not in TWO_UNDERSCORES:
        return [f"L12 {name} begins with an underscore"]
    return [f"L15 {name} is a name of Python's own"] if hasattr(builtins, name) else []


def faults_of_name(node):
    if isinstance(node.ctx, ast.Load):
        unused = hasattr(builtins, node.id) and node.id not in OWN_NAMES
        return [f"L8 {node.id} is not used"] if unused else []
    return plain(node.id)


def faults_of_arg(node):
    return plain(node.arg) + ([f"L21 {node.arg} is annotated"] if node.annotation else [])


def faults_of_attribute(node):
    faults = [] if not node.attr.startswith("_") or node.attr in TWO_UNDERSCORES else plain(node.attr)
    unlisted = any(hasattr(kind, node.attr) for kind in (str, int, list, dict, set, tuple, bytes))
    if unlisted and node.attr not in OWN_METHODS | TWO_UNDERSCORES | {"add", "discard", "title"}:
        faults.append(f"L25 {node.attr} is not used")
    return faults


def faults_of_constant(node):
    if node.value is not None and not isinstance(node.value, (bool, int, str)):
        return [f"L7 line {node.lineno} has a value of another kind"]
    if isinstance(node.value, str) and "%" in node.value:
        return [f"L27 line {node.lineno} has a text with the sign of the remainder"]
    return []


def faults_of_compare(node):
    sides = [node.left] + node.comparators
    for place, sign in enumerate(node.ops):
        beside = [side.value for side in sides[place:place + 2] if isinstance(side, ast.Constant)]
        if isinstance(sign, (ast.Is, ast.IsNot)) and not any(one in (None, True, False) for one in beside):
            return [f"L20 line {node.lineno} has an is beside no None, True or False"]
    return []


def faults_of_try(node):
    faults = [f"L6 line {node.lineno} has a finally"] if node.finalbody else []
    for handler in node.handlers:
        names = [part.id for part in ast.walk(handler.type) if isinstance(part, ast.Name)] if handler.type else []
        if not names or "Exception" in names or "TypeError" in names:
            faults.append(f"L19 line {handler.lineno} takes too much")
    return faults


def faults_of_loop(node):
    return [f"L6 line {node.lineno} has an else behind a loop"] if node.orelse else []


def faults_of_comprehension(node):
    many = len(node.generators) > 1 or len(node.generators[0].ifs) > 1
    return [f"L7 line {node.lineno} has more than one for or if"] if many else []


def faults_of(text):
    tree = ast.parse(text)
    found = [fault for node in ast.walk(tree) for fault in faults_of_node(node)]
    return faults_of_text(text) + faults_of_top(tree) + found


def drawn_from(path):
    modules = [node.module for node in ast.walk(ast.parse(path.read_text())) if isinstance(node, ast.ImportFrom)]
    return [module.split(".", 1)[1] for module in modules]


class Language(unittest.TestCase):
    def test_the_folder_holds_plain_files_alone(self):
        names = [path.name for path in PACKAGE.iterdir() if path.name != "__pycache__"]
        self.assertIn("__init__.py", names)
        for name in names:
            self.assertRegex(name, r"\A(__init__|__main__|[a-z][a-z0-9_]*)\.py\Z")

    def test_each_file_keeps_to_the_rules(self):
        for path in sorted(PACKAGE.glob("*.py")):
            with self.subTest(path.name):
                self.assertEqual(faults_of(path.read_bytes().decode()), [])

    def test_no_two_files_draw_from_one_another(self):
        drawn = {path.stem: drawn_from(path) for path in PACKAGE.glob("*.py")}
        while drawn:
            free = [name for name in drawn if not any(other in drawn for other in drawn[name])]
            self.assertTrue(free, f"these draw in a ring: {sorted(drawn)}")
            drawn = {name: others for name, others in drawn.items() if name not in free}

    def test_slips_are_found(self):
        slips = ["import os", "from twinwires.rows import ones", "from .bits import ones", "from random import random",
                 "print(1)", "a = b = 1", "a, b = (1, 2)", "a = 1\na = 2", "def f(*args):\n    pass",
                 "def f(x: int):\n    pass", "def f():\n    'words'", "def f(a):\n    return a / 2",
                 "def f(a):\n    return 1.5", "def f(a):\n    return {k for k in a}", "def f(a):\n    return eval(a)",
                 "def f(a):\n    a.sort()", "def f(id):\n    return id", "def f(_a):\n    pass",
                 "def f(a, b):\n    return a is b", "def f(a):\n    del a", "def f(a):\n    assert a",
                 "def f(a):\n    with a:\n        pass", "def f(a):\n    yield a", "class A:\n    x = 1",
                 "class A(int, str):\n    pass", "a = 'type'", "# a typing remark", "a = '\u00e9'", "a = '%'",
                 "\ta = 1", "a = '" + "x" * 120 + "'", "def f():\n" + "    pass\n" * 40, "a = 1\n" * 401,
                 "def f():\n    try:\n        f()\n    except Exception:\n        pass",
                 "def f(a):\n    return [k for b in a for k in b]",
                 "def f(a):\n    while a:\n        pass\n    else:\n        pass"]
        for slip in slips:
            with self.subTest(slip):
                self.assertNotEqual(faults_of(slip.lstrip("\t")) + faults_of_text(slip), [])


if __name__ == "__main__":
    unittest.main()
