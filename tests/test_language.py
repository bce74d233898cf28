"""The part of Python that the package keeps to: those rules that can be read off the files.

It does not stand for LANGUAGE.md as a whole; it finds the slips that are made most easily.
"""

import ast
import builtins
import pathlib
import re
import unittest

PACKAGE = pathlib.Path(__file__).resolve().parent.parent / "twinwires"

OWN_NAMES = set("""len range enumerate zip min max sum abs sorted reversed int str bool list tuple dict set
    frozenset isinstance ord repr any all divmod Exception ValueError TypeError KeyError IndexError LookupError
    ZeroDivisionError ArithmeticError OverflowError RuntimeError NotImplementedError AttributeError
    StopIteration""".split())
OWN_METHODS = set("""append clear copy count endswith extend find get index insert isalnum isalpha isdigit islower
    isspace isupper items join keys ljust lower lstrip partition pop remove replace reverse rfind rjust
    rpartition rsplit rstrip setdefault split splitlines startswith strip update upper values zfill
    bit_length""".split())
TWO_UNDERSCORES = {"__init__", "__eq__", "__repr__", "__str__", "__len__"}
WORDS = re.compile(r"\b(type|typing|typing_extensions|enum|Enum|IntEnum|StrEnum|Flag|IntFlag|Generic|Protocol|ABC"
                   r"|ABCMeta|namedtuple|NamedTuple|TypedDict|TYPE_CHECKING|abstractmethod)\b"
                   r"|dataclass|overload|contextmanager")
NODES = set("""Module ImportFrom alias FunctionDef arguments arg Lambda ClassDef Assign AugAssign If While For Return
    Break Continue Pass Raise Try ExceptHandler Expr Call Name Constant List Tuple Dict Set BinOp UnaryOp BoolOp
    Compare IfExp Attribute Subscript Slice ListComp comprehension JoinedStr FormattedValue keyword Load Store
    Add Sub Mult FloorDiv Mod Pow BitAnd BitOr BitXor LShift RShift Invert USub UAdd Not And Or Eq NotEq Lt LtE Gt GtE
    Is IsNot In NotIn""".split())
TOP_NODES = (ast.ImportFrom, ast.FunctionDef, ast.ClassDef, ast.Assign)
UNUSED = set("""register mro elements open input version_info with_traceback add_note attrgetter breakpoint builtins
    compile copyright credits delattr dir eval exec exit gc getattr globals hasattr help id importlib license locals
    methodcaller os quit setattr super vars sys""".split())
CHANGING = set("append clear extend insert pop remove reverse setdefault update".split())
WALKED = set("zip enumerate reversed range".split())
WALKED_METHODS = set("items keys values".split())
WALKERS = set("list tuple dict sorted sum any all enumerate zip min max".split())
KEYWORDS = {"sorted": {"key", "reverse"}, "min": {"key", "default"}, "max": {"key", "default"}, "sum": {"start"},
            "enumerate": {"start"}, "zip": {"strict"}}


def faults_of_text(text):
    faults = []
    lines = text.split("\n")
    if len(lines) > 401:
        faults.append("L10 a file of more than 400 lines")
    for number, line in enumerate(lines, 1):
        if len(line) > 120:
            faults.append(f"L10 line {number} is too long")
        if any(not " " <= sign <= "~" for sign in line):
            faults.append(f"L14 line {number} has a sign that is none of the plain ones")
        if WORDS.search(line):
            faults.append(f"L17 line {number} has a word that is not used")
    return faults


def faults_of_top(tree):
    faults = []
    for place, node in enumerate(tree.body):
        docstring = place == 0 and isinstance(node, ast.Expr) and isinstance(node.value, ast.Constant)
        if not docstring and not isinstance(node, TOP_NODES):
            faults.append(f"L3 line {node.lineno} doesn't stand at a file's top")
    bound = [name for node in tree.body for name in names_bound(node)]
    faults += [f"L15 {name} is bound twice" for name in sorted(set(bound)) if bound.count(name) > 1]
    return faults


def names_bound(node):
    if isinstance(node, (ast.FunctionDef, ast.ClassDef)):
        return [node.name]
    if isinstance(node, ast.ImportFrom):
        return [alias.asname or alias.name for alias in node.names]
    if isinstance(node, ast.Assign):
        return [target.id for target in node.targets if isinstance(target, ast.Name)]
    return []


def faults_of_node(node):
    name = type(node).__name__
    told = {
        ast.FunctionDef: faults_of_def, ast.ClassDef: faults_of_class, ast.ImportFrom: faults_of_import,
        ast.Assign: faults_of_assign, ast.Expr: faults_of_call_by_itself, ast.Name: faults_of_name,
        ast.arg: faults_of_arg, ast.Attribute: faults_of_attribute, ast.Constant: faults_of_constant,
        ast.Compare: faults_of_compare, ast.Try: faults_of_try, ast.For: faults_of_loop, ast.While: faults_of_loop,
        ast.ListComp: faults_of_comprehension, ast.Raise: faults_of_raise, ast.BinOp: faults_of_power,
        ast.FormattedValue: faults_of_braces, ast.Call: faults_of_keywords,
    }.get(type(node))
    faults = [] if name in NODES else [f"L6, L7: {name} is not used"]
    return faults + (told(node) if told else [])


def faults_of_def(node):
    faults = plain(node.name)
    if node.end_lineno - node.lineno + 1 > 40:
        faults.append(f"L10 {node.name} has more than 40 lines")
    if node.decorator_list or node.args.vararg or node.args.kwarg or node.args.kwonlyargs or node.args.posonlyargs:
        faults.append(f"L4 {node.name} has a decorator or parameters that aren't plain")
    if node.returns:
        faults.append(f"L21 {node.name} is annotated")
    return faults


def faults_of_class(node):
    faults = plain(node.name)
    if len(node.bases) > 1 or node.keywords or node.decorator_list:
        faults.append(f"L5 {node.name} has more than a base")
    if any(not isinstance(part, (ast.FunctionDef, ast.Pass)) for part in node.body):
        faults.append(f"L5 {node.name} has more than methods")
    return faults


def faults_of_import(node):
    if node.level or not (node.module or "").startswith("twinwires."):
        return [f"L2 line {node.lineno} draws from another place"]
    path = PACKAGE / (node.module.split(".", 1)[1] + ".py")
    if not path.exists():
        return [f"L16 {node.module} is no file of the package"]
    defined = [name for part in ast.parse(path.read_text()).body if not isinstance(part, ast.ImportFrom)
               for name in names_bound(part)]
    return [f"L16 {alias.name} is not defined in {node.module}" for alias in node.names if alias.name not in defined]


def faults_of_assign(node):
    # A tuple of targets is more than one.
    if len(node.targets) > 1 or isinstance(node.targets[0], (ast.Tuple, ast.List)):
        return [f"L6 line {node.lineno} has more than one target"]
    return []


def faults_of_call_by_itself(node):
    text = isinstance(node.value, ast.Constant) and isinstance(node.value.value, str) and node.col_offset == 0
    return [] if text or isinstance(node.value, ast.Call) else [f"L6 line {node.lineno} is no statement"]


def plain(name):
    if name in TWO_UNDERSCORES:
        return []
    if name.startswith("_"):
        return [f"L12 {name} begins with an underscore"]
    return [f"L15 {name} is a name of Python's own"] if hasattr(builtins, name) else []


def faults_of_name(node):
    if isinstance(node.ctx, ast.Load):
        unused = hasattr(builtins, node.id) and node.id not in OWN_NAMES
        return [f"L8 {node.id} is not used"] if unused else []
    return plain(node.id)


def faults_of_arg(node):
    return plain(node.arg) + ([f"L21 {node.arg} is annotated"] if node.annotation else [])


def faults_of_attribute(node):
    faults = [] if not node.attr.startswith("_") or node.attr in TWO_UNDERSCORES else plain(node.attr)
    unlisted = any(hasattr(kind, node.attr) for kind in (str, int, list, dict, set, tuple, bytes))
    if unlisted and node.attr not in OWN_METHODS | TWO_UNDERSCORES | {"add", "discard", "title"}:
        faults.append(f"L25 {node.attr} is not used")
    return faults


def faults_of_constant(node):
    if node.value is not None and not isinstance(node.value, (bool, int, str)):
        return [f"L7 line {node.lineno} has a value of another kind"]
    if isinstance(node.value, str) and "%" in node.value:
        return [f"L27 line {node.lineno} has a text with the sign of the remainder"]
    return []


def faults_of_compare(node):
    sides = [node.left] + node.comparators
    for place, sign in enumerate(node.ops):
        beside = [side.value for side in sides[place:place + 2] if isinstance(side, ast.Constant)]
        if isinstance(sign, (ast.Is, ast.IsNot)) and not any(one in (None, True, False) for one in beside):
            return [f"L20 line {node.lineno} has an is beside no None, True or False"]
    return []


def faults_of_try(node):
    faults = [f"L6 line {node.lineno} has a finally"] if node.finalbody else []
    for handler in node.handlers:
        names = [part.id for part in ast.walk(handler.type) if isinstance(part, ast.Name)] if handler.type else []
        if not names or "Exception" in names or "TypeError" in names:
            faults.append(f"L19 line {handler.lineno} takes too much")
    return faults


def faults_of_loop(node):
    return [f"L6 line {node.lineno} has an else behind a loop"] if node.orelse else []


def faults_of_comprehension(node):
    many = len(node.generators) > 1 or len(node.generators[0].ifs) > 1
    return [f"L7 line {node.lineno} has more than one for or if"] if many else []


def faults_of_raise(node):
    on_the_spot = isinstance(node.exc, ast.Call) and isinstance(node.exc.func, ast.Name)
    return [] if on_the_spot else [f"L19 line {node.lineno} makes its error elsewhere"]


def faults_of_power(node):
    if not isinstance(node.op, ast.Pow):
        return []
    written = isinstance(node.right, ast.Constant) and isinstance(node.right.value, int) and 0 <= node.right.value <= 64
    return [] if written else [f"L27 line {node.lineno} has a power whose exponent isn't written"]


def faults_of_braces(node):
    return [] if isinstance(node.value, ast.Name) and not node.format_spec else ["L7 braces hold more than a name"]


def faults_of_keywords(node):
    name = called(node)
    if isinstance(node.func, ast.Attribute) and name not in OWN_METHODS:
        return []
    if isinstance(node.func, ast.Name) and name not in OWN_NAMES:
        return []
    strange = [word.arg for word in node.keywords if word.arg not in KEYWORDS.get(name, set())]
    return [f"L22 line {node.lineno} has the keyword {word}" for word in strange]


def called(node):
    if not isinstance(node, ast.Call):
        return ""
    return node.func.attr if isinstance(node.func, ast.Attribute) else getattr(node.func, "id", "")


def parents_of(tree):
    return {child: node for node in ast.walk(tree) for child in ast.iter_child_nodes(node)}


def faults_of_walks(tree):
    """L23: what is walked at once is not kept."""
    parents = parents_of(tree)
    faults = []
    for node in ast.walk(tree):
        plain_call = called(node) in WALKED and isinstance(node.func, ast.Name)
        method_call = called(node) in WALKED_METHODS and isinstance(node.func, ast.Attribute)
        if not plain_call and not method_call:
            continue
        above = parents[node]
        looped = isinstance(above, (ast.For, ast.comprehension)) and above.iter is node
        taken = called(above) in WALKERS and above.args[0] is node
        joined = called(above) == "join" and isinstance(above.func.value, ast.Constant)
        if not looped and not taken and not joined:
            faults.append(f"L23 line {node.lineno} keeps what is walked at once")
    return faults


def faults_of_classes(tree):
    """L18: where the name of a class may stand."""
    parents = parents_of(tree)
    drawn = [alias.name for node in tree.body if isinstance(node, ast.ImportFrom) for alias in node.names]
    own = [node.name for node in tree.body if isinstance(node, ast.ClassDef)]
    classes = [name for name in drawn if name[0].isupper() and not name.isupper()] + own
    faults = []
    for node in ast.walk(tree):
        if not isinstance(node, ast.Name) or node.id not in classes:
            continue
        above = parents[node]
        called_here = isinstance(above, ast.Call) and (above.func is node or called(above) == "isinstance")
        init = isinstance(above, ast.Attribute) and above.attr == "__init__"
        if not called_here and not init and not isinstance(above, (ast.ClassDef, ast.ExceptHandler, ast.Tuple)):
            faults.append(f"L18 line {node.lineno} hands a class on")
    return faults


def faults_of_locals(tree):
    """L15: no parameter and no local is called like a class or an import of its file."""
    taken = [name for node in tree.body if isinstance(node, (ast.ClassDef, ast.ImportFrom)) for name in names_bound(node)]
    faults = []
    for node in ast.walk(tree):
        name = node.arg if isinstance(node, ast.arg) else ""
        if isinstance(node, ast.Name) and isinstance(node.ctx, ast.Store):
            name = node.id
        if name in taken:
            faults.append(f"L15 line {node.lineno} calls something {name} anew")
    return faults


def faults_of_kept(tree):
    """L15: a list or dict of a file's top is only read."""
    tops = [name for node in tree.body if isinstance(node, ast.Assign) for name in names_bound(node)]
    faults = []
    for node in ast.walk(tree):
        if called(node) in CHANGING and isinstance(node.func, ast.Attribute):
            if isinstance(node.func.value, ast.Name) and node.func.value.id in tops:
                faults.append(f"L15 line {node.lineno} changes what a file's top keeps")
        if isinstance(node, (ast.Subscript, ast.Attribute)) and isinstance(node.ctx, ast.Store):
            if isinstance(node.value, ast.Name) and node.value.id in tops:
                faults.append(f"L15 line {node.lineno} stores in what a file's top keeps")
    return faults


def faults_of_names(tree):
    """L17: names, methods and values that are not used."""
    names = [node.id for node in ast.walk(tree) if isinstance(node, ast.Name)]
    names += [node.attr for node in ast.walk(tree) if isinstance(node, ast.Attribute)]
    names += [node.name for node in ast.walk(tree) if isinstance(node, (ast.FunctionDef, ast.ClassDef))]
    return [f"L17 {name} is not used" for name in names if name in UNUSED]


def faults_of(text):
    tree = ast.parse(text)
    found = [fault for node in ast.walk(tree) for fault in faults_of_node(node)]
    for told in (faults_of_top, faults_of_walks, faults_of_classes, faults_of_locals, faults_of_kept, faults_of_names):
        found += told(tree)
    return faults_of_text(text) + found


def methods_and_values(trees):
    """L18: the names of methods, and those of the values of objects, in the whole package."""
    nodes = [node for tree in trees for node in ast.walk(tree)]
    methods = {part.name for node in nodes if isinstance(node, ast.ClassDef) for part in node.body
               if isinstance(part, ast.FunctionDef)}
    values = {node.attr for node in nodes if isinstance(node, ast.Attribute) and isinstance(node.ctx, ast.Store)}
    return methods, values


def drawn_from(path):
    modules = [node.module for node in ast.walk(ast.parse(path.read_text())) if isinstance(node, ast.ImportFrom)]
    return [module.split(".", 1)[1] for module in modules]


class Language(unittest.TestCase):
    def test_the_folder_holds_plain_files_alone(self):
        names = [path.name for path in PACKAGE.iterdir() if path.name != "__pycache__"]
        self.assertIn("__init__.py", names)
        for name in names:
            self.assertRegex(name, r"\A(__init__|__main__|[a-z][a-z0-9_]*)\.py\Z")

    def test_each_file_keeps_to_the_rules(self):
        for path in sorted(PACKAGE.glob("*.py")):
            with self.subTest(path.name):
                self.assertEqual(faults_of(path.read_bytes().decode()), [])

    def test_no_two_files_draw_from_one_another(self):
        drawn = {path.stem: drawn_from(path) for path in PACKAGE.glob("*.py")}
        while drawn:
            free = [name for name in drawn if not any(other in drawn for other in drawn[name])]
            self.assertTrue(free, f"these draw in a ring: {sorted(drawn)}")
            drawn = {name: others for name, others in drawn.items() if name not in free}

    def test_no_name_is_a_method_and_a_value(self):
        methods, values = methods_and_values([ast.parse(path.read_text()) for path in PACKAGE.glob("*.py")])
        self.assertEqual(methods & values, set())
        # Names of Python's own values are no free ones (L26).
        own = {name for kind in (str, int, list, dict, set, tuple, bytes) for name in dir(kind)}
        self.assertEqual((methods | values) & own - TWO_UNDERSCORES, set())

    def test_no_method_stands_twice(self):
        for path in PACKAGE.glob("*.py"):
            for node in ast.parse(path.read_text()).body:
                if isinstance(node, ast.ClassDef):
                    names = [part.name for part in node.body if isinstance(part, ast.FunctionDef)]
                    self.assertEqual(len(names), len(set(names)), node.name)

    def test_slips_are_found(self):
        slips = ["import os", "from twinwires.rows import ones", "from .bits import ones", "from random import random",
                 "print(1)", "a = b = 1", "a, b = (1, 2)", "a = 1\na = 2", "def f(*args):\n    pass",
                 "def f(x: int):\n    pass", "def f():\n    'words'", "def f(a):\n    return a / 2",
                 "def f(a):\n    return 1.5", "def f(a):\n    return {k for k in a}", "def f(a):\n    return eval(a)",
                 "def f(a):\n    a.sort()", "def f(id):\n    return id", "def f(_a):\n    pass",
                 "def f(a, b):\n    return a is b", "def f(a):\n    del a", "def f(a):\n    assert a",
                 "def f(a):\n    with a:\n        pass", "def f(a):\n    yield a", "class A:\n    x = 1",
                 "class A(int, str):\n    pass", "a = 'type'", "# a typing remark", "a = '\u00e9'", "a = '%'",
                 "\ta = 1", "a = '" + "x" * 120 + "'", "def f():\n" + "    pass\n" * 40, "a = 1\n" * 401,
                 "def f():\n    try:\n        f()\n    except Exception:\n        pass",
                 "def f(a):\n    return [k for b in a for k in b]",
                 "def f(a):\n    while a:\n        pass\n    else:\n        pass",
                 "def f(a):\n    return zip(a, a)", "def f(a):\n    b = a.items()\n    return b",
                 "def f(a):\n    return a in range(3)", "class A:\n    pass\n\n\ndef f():\n    return [A]",
                 "from twinwires.bits import ones\n\n\ndef f(ones):\n    return ones",
                 "a = []\n\n\ndef f(b):\n    a.append(b)", "a = {}\n\n\ndef f(b):\n    a[b] = b",
                 "def f(a):\n    raise a", "def f(a):\n    return 2 ** a", "def f(a):\n    return f'{a + 1}'",
                 "def f(a):\n    return a.split(sep='x')", "def f(a):\n    return a.elements"]
        for slip in slips:
            with self.subTest(slip):
                self.assertNotEqual(faults_of(slip.lstrip("\t")) + faults_of_text(slip), [])


if __name__ == "__main__":
    unittest.main()
