"""The form of the package: those of the rules L1 to L28 that are easily seen in a file or in
all files together. What is not seen here (of L15, L19, L23 and their like) is left to whoever
reads the code."""

import ast
import builtins
import pathlib
import re
import unittest

PACKAGE = pathlib.Path(__file__).resolve().parent.parent / "meterhouse"

ALLOWED_BUILTINS = set(
    "len range enumerate zip min max sum abs sorted reversed int str bool list tuple dict set frozenset isinstance "
    "ord repr any all divmod Exception ValueError TypeError KeyError IndexError LookupError ZeroDivisionError "
    "ArithmeticError OverflowError RuntimeError NotImplementedError AttributeError StopIteration".split()
)

OWN_METHODS = ("__init__", "__eq__", "__repr__", "__str__", "__len__")

BARRED_NAMES = set(
    "register mro elements open input version_info with_traceback add_note attrgetter breakpoint builtins compile "
    "copyright credits delattr dir eval exec exit gc getattr globals hasattr help id importlib license locals "
    "methodcaller os quit setattr super type vars sys".split()
)

BARRED_WORDS = re.compile(
    r"\b(type|typing|typing_extensions|enum|Enum|IntEnum|StrEnum|Flag|IntFlag|Generic|Protocol|ABC|ABCMeta|namedtuple"
    r"|NamedTuple|TypedDict|TYPE_CHECKING|abstractmethod)\b|dataclass|overload|contextmanager"
)

# Everything of Python's grammar that the rules name; what is not here is outside them.
ALLOWED_NODES = (
    ast.Module, ast.ImportFrom, ast.alias, ast.FunctionDef, ast.ClassDef, ast.arguments, ast.arg, ast.Lambda,
    ast.Assign, ast.AugAssign, ast.If, ast.While, ast.For, ast.Return, ast.Break, ast.Continue, ast.Pass, ast.Raise,
    ast.Try, ast.ExceptHandler, ast.Expr, ast.BinOp, ast.UnaryOp, ast.BoolOp, ast.Compare, ast.IfExp, ast.Call,
    ast.keyword, ast.Attribute, ast.Subscript, ast.Slice, ast.ListComp, ast.comprehension, ast.JoinedStr,
    ast.FormattedValue, ast.Constant, ast.List, ast.Tuple, ast.Dict, ast.Set, ast.Name, ast.operator, ast.unaryop,
    ast.boolop, ast.cmpop, ast.expr_context,
)


METHODS_OF_PYTHON = set(
    "append clear copy count endswith extend find get index insert isalnum isalpha isdigit islower isspace isupper "
    "items join keys ljust lower lstrip partition pop remove replace reverse rfind rjust rpartition rsplit rstrip "
    "setdefault split splitlines startswith strip update upper values zfill bit_length".split()
)

# What Python's own values have, and what of it an own method or value may be called all the same.
HAD_BY_PYTHON = set(dir(str) + dir(int) + dir(list) + dir(dict) + dir(set) + dir(bytes) + dir(tuple) + dir(frozenset))
FREE_FOR_METHODS = METHODS_OF_PYTHON | {"add", "discard"}
FREE_FOR_VALUES = set("count index title find get join lower upper split strip copy add".split())

WALKED = ("zip", "enumerate", "reversed", "range")
WALKED_METHODS = ("items", "keys", "values")
WALKERS = ("list", "tuple", "dict", "sorted", "sum", "any", "all", "enumerate", "zip", "min", "max")

KEYWORDS = {"sorted": ("key", "reverse"), "min": ("key", "default"), "max": ("key", "default"), "sum": ("start",),
            "enumerate": ("start",), "zip": ("strict",)}


def files():
    return sorted(PACKAGE.rglob("*.py"))


def plain_value(node, functions):
    if isinstance(node, ast.Constant):
        return True
    if isinstance(node, (ast.List, ast.Tuple)):
        return all(plain_value(part, functions) for part in node.elts)
    if isinstance(node, ast.Dict):
        return all(plain_value(part, functions) for part in node.keys + node.values)
    if isinstance(node, ast.UnaryOp) and isinstance(node.op, ast.USub):
        return isinstance(node.operand, ast.Constant)
    return isinstance(node, ast.Name) and node.id in functions


def docstring(node):
    return isinstance(node, ast.Expr) and isinstance(node.value, ast.Constant) and isinstance(node.value.value, str)


def faults_of_text(text):
    found = []
    if re.search(r"[^\n -~]", text):
        found.append("L14 sign")
    if BARRED_WORDS.search(text):
        found.append("L17 word")
    lines = text.split("\n")
    if len(lines) > 401 or any(len(line) > 120 for line in lines):
        found.append("L10 size")
    return found


def faults_of_top(tree):
    found = []
    functions = []
    bound = []
    for k, node in enumerate(tree.body):
        if isinstance(node, (ast.FunctionDef, ast.ClassDef)):
            bound.append(node.name)
            if isinstance(node, ast.FunctionDef):
                functions.append(node.name)
        elif isinstance(node, ast.Assign):
            bound.extend(target.id for target in node.targets if isinstance(target, ast.Name))
            if not plain_value(node.value, functions):
                found.append("L3 value")
        elif isinstance(node, ast.ImportFrom):
            bound.extend(part.asname or part.name for part in node.names)
        elif not (k == 0 and docstring(node)):
            found.append("L3 top")
    if len(set(bound)) < len(bound):
        found.append("L15 name twice")
    return found


def faults_of_class(node):
    found = []
    if len(node.bases) > 1 or node.keywords or node.decorator_list:
        found.append("L5 class")
    for part in node.body:
        if not isinstance(part, (ast.FunctionDef, ast.Pass)):
            found.append("L5 body")
        elif isinstance(part, ast.FunctionDef) and part.name.startswith("_") and part.name not in OWN_METHODS:
            found.append("L5 method")
    return found


def faults_of_function(node):
    told = node.args
    found = []
    if told.vararg or told.kwarg or told.kwonlyargs or told.posonlyargs:
        found.append("L4 parameters")
    if isinstance(node, ast.FunctionDef):
        if node.decorator_list:
            found.append("L4 decorator")
        if node.end_lineno - node.lineno + 1 > 40:
            found.append("L10 function")
    if any(isinstance(part, (ast.List, ast.Dict, ast.Set, ast.Call)) for part in told.defaults):
        found.append("L4 default")
    return found


def faults_of_import(node):
    module = node.module or ""
    if node.level or any(part.name == "*" for part in node.names):
        return ["L2 import"]
    if module != "__future__" and not re.fullmatch(r"meterhouse\.[a-z0-9_]+", module):
        return ["L2 import"]
    return []


def faults_of_compare(node):
    sides = [node.left] + node.comparators
    for k, op in enumerate(node.ops):
        if isinstance(op, (ast.Is, ast.IsNot)):
            beside = [side for side in sides[k:k + 2] if isinstance(side, ast.Constant)]
            if not any(side.value is None or isinstance(side.value, bool) for side in beside):
                return ["L20 is"]
    return []


def faults_of_operation(node):
    if isinstance(node.op, (ast.Div, ast.MatMult)):
        return ["L7 operator"]
    if isinstance(node.op, ast.Pow):
        exponent = node.right if isinstance(node, ast.BinOp) else node.value
        if not (isinstance(exponent, ast.Constant) and exponent.value in range(65)):
            return ["L27 power"]
    return []


def faults_of_constant(node):
    if isinstance(node.value, str) and "%" in node.value:
        return ["L27 sign in a text"]
    if node.value is not None and not isinstance(node.value, (bool, int, str)):
        return ["L7 value"]
    return []


def faults_of_statement(node):
    if isinstance(node, ast.Assign) and (len(node.targets) > 1 or isinstance(node.targets[0], (ast.Tuple, ast.List))):
        return ["L6 targets"]
    if isinstance(node, (ast.For, ast.While)) and node.orelse:
        return ["L6 else behind a loop"]
    if isinstance(node, ast.Try) and (node.finalbody or any(handler.type is None for handler in node.handlers)):
        return ["L6 try"]
    if isinstance(node, ast.ListComp) and (len(node.generators) > 1 or len(node.generators[0].ifs) > 1):
        return ["L7 comprehension"]
    if isinstance(node, ast.Expr) and not isinstance(node.value, ast.Call) and not docstring(node):
        return ["L6 expression"]
    if isinstance(node, ast.FormattedValue) and (node.format_spec or not isinstance(node.value, ast.Name)):
        return ["L7 f-string"]
    return []


def faults_of_name(name, own):
    found = []
    if not re.fullmatch(r"[A-Za-z][A-Za-z0-9_]*", name) and name not in OWN_METHODS:
        found.append("L12 name")
    if name in BARRED_NAMES:
        found.append("L17 name")
    if name not in own and hasattr(builtins, name) and name not in ALLOWED_BUILTINS:
        found.append("L8 name")
    if name in own and hasattr(builtins, name):
        found.append("L15 name of Python's own")
    return found


def names_bound(tree):
    found = []
    for node in ast.walk(tree):
        if isinstance(node, ast.Name) and isinstance(node.ctx, ast.Store):
            found.append(node.id)
        elif isinstance(node, ast.arg):
            found.append(node.arg)
        elif isinstance(node, ast.ClassDef):
            found.append(node.name)
    methods = [id(part) for node in ast.walk(tree) if isinstance(node, ast.ClassDef) for part in node.body]
    defs = [node for node in ast.walk(tree) if isinstance(node, ast.FunctionDef) and id(node) not in methods]
    return found + [node.name for node in defs]


def faults_of_node(node, own):
    found = [] if isinstance(node, ALLOWED_NODES) else [f"outside the rules: {type(node).__name__}"]
    found += faults_of_statement(node) + faults_of_keywords(node)
    if isinstance(node, ast.ClassDef):
        found += faults_of_class(node)
    elif isinstance(node, (ast.FunctionDef, ast.Lambda)):
        found += faults_of_function(node)
    elif isinstance(node, ast.ImportFrom):
        found += faults_of_import(node)
    elif isinstance(node, ast.Compare):
        found += faults_of_compare(node)
    elif isinstance(node, (ast.BinOp, ast.AugAssign)):
        found += faults_of_operation(node)
    elif isinstance(node, ast.Constant):
        found += faults_of_constant(node)
    elif isinstance(node, ast.Name):
        found += faults_of_name(node.id, own)
    return found


def locals_bound(tree):
    found = [node.arg for node in ast.walk(tree) if isinstance(node, ast.arg)]
    for node in ast.walk(tree):
        if isinstance(node, ast.FunctionDef):
            stored = [part for part in ast.walk(node) if isinstance(part, ast.Name) and isinstance(part.ctx, ast.Store)]
            found.extend(part.id for part in stored)
    return found


def faults_of_locals(tree):
    tops = [node.name for node in tree.body if isinstance(node, ast.ClassDef)]
    for node in tree.body:
        if isinstance(node, ast.ImportFrom):
            tops.extend(part.asname or part.name for part in node.names)
    return ["L15 local like a class or an import"] if set(tops) & set(locals_bound(tree)) else []


def faults_of_keywords(node):
    if not isinstance(node, ast.Call) or not isinstance(node.func, ast.Name):
        return []
    if node.func.id in ALLOWED_BUILTINS and any(part.arg not in KEYWORDS.get(node.func.id, ()) for part in node.keywords):
        return ["L22 keyword"]
    return []


def called(node):
    if isinstance(node, ast.Call):
        return node.func.id if isinstance(node.func, ast.Name) else getattr(node.func, "attr", "")
    return ""


def is_walk(node):
    if isinstance(node, ast.Call) and isinstance(node.func, ast.Attribute):
        return node.func.attr in WALKED_METHODS
    return called(node) in WALKED


# Every value that is walked on the spot, where rule L23 lets it stand.
def walked_on_the_spot(tree):
    found = []
    for node in ast.walk(tree):
        if isinstance(node, (ast.For, ast.comprehension)):
            found.append(node.iter)
        elif isinstance(node, ast.Call) and isinstance(node.func, ast.Name) and node.func.id in WALKERS and node.args:
            found.extend(node.args if node.func.id == "zip" else node.args[:1])
        elif called(node) == "join" and isinstance(node.func, ast.Attribute) and isinstance(node.func.value, ast.Constant):
            found.extend(node.args)
    return [id(part) for part in found]


def faults_of_walks(tree):
    let = walked_on_the_spot(tree)
    return ["L23 kept walk" for node in ast.walk(tree) if is_walk(node) and id(node) not in let]


def faults_of_sets(tree):
    let = []
    for node in ast.walk(tree):
        if called(node) in ("sorted", "len") and not node.keywords:
            let.extend(id(part) for part in node.args)
        elif isinstance(node, ast.Compare):
            let.extend(id(part) for part in [node.left] + node.comparators)
    return ["L24 set" for node in ast.walk(tree)
            if isinstance(node, ast.Set) or (called(node) in ("set", "frozenset") and id(node) not in let)]


def classes_of(trees):
    return [node for tree in trees for node in ast.walk(tree) if isinstance(node, ast.ClassDef)]


def methods_of(trees):
    return [part.name for node in classes_of(trees) for part in node.body if isinstance(part, ast.FunctionDef)]


def values_of(trees):
    return [node.attr for tree in trees for node in ast.walk(tree)
            if isinstance(node, ast.Attribute) and isinstance(node.ctx, ast.Store)]


def faults_of_methods(trees):
    found = []
    methods, values = set(methods_of(trees)) - set(OWN_METHODS), set(values_of(trees))
    if methods & values:
        found.append("L18 a method and a value of one name")
    if methods & HAD_BY_PYTHON - FREE_FOR_METHODS or values & HAD_BY_PYTHON - FREE_FOR_VALUES:
        found.append("L26 name")
    for node in classes_of(trees):
        names = [part.name for part in node.body if isinstance(part, ast.FunctionDef)]
        if len(set(names)) < len(names):
            found.append("L18 method twice")
    for tree in trees:
        heads = [id(node.func) for node in ast.walk(tree) if isinstance(node, ast.Call)]
        for node in ast.walk(tree):
            if isinstance(node, ast.Attribute) and isinstance(node.ctx, ast.Load):
                if id(node) in heads and node.attr not in methods | METHODS_OF_PYTHON | set(OWN_METHODS):
                    found.append("L25 method")
                if id(node) not in heads and node.attr not in values:
                    found.append("L25 method handed on")
    return found


def faults(text):
    tree = ast.parse(text)
    own = names_bound(tree)
    found = faults_of_text(text) + faults_of_top(tree) + faults_of_locals(tree)
    found += faults_of_walks(tree) + faults_of_sets(tree)
    for name in own:
        found += faults_of_name(name, own)
    for node in ast.walk(tree):
        found += faults_of_node(node, own)
    return sorted(set(found))


def drawn_from(text):
    return [node.module for node in ast.walk(ast.parse(text)) if isinstance(node, ast.ImportFrom)]


# Each of these breaks a rule, so the looking itself is looked at.
BAD = (
    "import meterhouse.words\n", "from .words import WIDE\n", "from os import path\n", "from meterhouse.words import *\n",
    "ONE = 2 ** 64\n", "ONE = len(\"a\")\n", "ONE = 1\nONE = 2\n", "print(1)\n", "ONE = 1.5\n", "ONE = b\"a\"\n",
    "def f(*a):\n    return a\n", "def f(a, *, b):\n    return a\n", "@f\ndef g():\n    return 1\n",
    "class A:\n    b = 1\n", "class A(B, C):\n    pass\n", "def f(a):\n    return a / 2\n",
    "def f(a):\n    return 2 ** a\n", "def f(a):\n    del a\n", "def f(a):\n    assert a\n", "def f(a):\n    a = b = 1\n",
    "def f(a):\n    with a:\n        pass\n", "def f(a):\n    return {b for b in a}\n", "def f(a):\n    return a is 1\n",
    "def f(a):\n    return hash(a)\n", "def f(len):\n    return len\n", "def f(_a):\n    return 1\n",
    "def f(a):\n    return \"%\"\n", "def f(a):\n    return chr(a)\n", "def f(a):\n    yield a\n",
    "def f(a):\n\treturn a\n", "# a type\n", "def f(a):\n    return f\"{a:3}\"\n", "def f(a):\n    a\n",
    "def f(a):\n    for b in a:\n        pass\n    else:\n        pass\n", "def f():\n" + "    a = 1\n" * 40,
    "def f(a):\n    return a" + " " * 120 + "\n", "def f(a):\n    b, c = a\n",
    "from meterhouse.words import WIDE\n\n\ndef f(WIDE):\n    return 1\n", "class A:\n    pass\n\n\ndef f():\n    A = 1\n",
    "def f(a):\n    return int(a, base=2)\n", "def f(a):\n    return zip(a, a)\n", "def f(a):\n    b = a.items()\n",
    "def f(a):\n    b = set(a)\n", "def f(a):\n    for b in set(a):\n        pass\n", "def f(a):\n    return a in {1, 2, 3}\n",
)

# These are seen only where the classes of all files are looked at together.
BAD_CLASSES = (
    "class A:\n    def b(self):\n        self.b = 1\n", "class A:\n    def real(self):\n        return 1\n",
    "class A:\n    def __init__(self):\n        self.items = 1\n", "def f(a):\n    return a.sort()\n",
    "def f(a):\n    return a.append\n", "class A:\n    def b(self):\n        pass\n\n    def b(self):\n        pass\n",
)


class Form(unittest.TestCase):
    def test_the_package_holds_plain_files_alone(self):
        self.assertTrue((PACKAGE / "__init__.py").is_file())
        for path in PACKAGE.iterdir():
            if path.name != "__pycache__":
                self.assertRegex(path.name, r"^(__init__|__main__|[a-z][a-z0-9_]*)\.py$")
                self.assertFalse(path.name.startswith("test"))
                self.assertFalse(path.stem[0] != "_" and hasattr(builtins, path.stem))

    def test_each_file_keeps_to_the_rules(self):
        for path in files():
            with self.subTest(path=path.name):
                self.assertEqual(faults(path.read_text(encoding="utf-8")), [])

    def test_the_methods_and_values_of_all_files_keep_to_the_rules(self):
        self.assertEqual(faults_of_methods([ast.parse(path.read_text(encoding="utf-8")) for path in files()]), [])

    def test_no_two_files_draw_from_one_another(self):
        drawn = {f"meterhouse.{path.stem}": drawn_from(path.read_text(encoding="utf-8")) for path in files()}
        while drawn:
            free = [name for name in drawn if not set(drawn[name]) & set(drawn)]
            self.assertTrue(free, f"a ring among {sorted(drawn)}")
            drawn = {name: drawn[name] for name in drawn if name not in free}

    def test_what_breaks_a_rule_is_seen(self):
        for text in BAD:
            with self.subTest(text=text):
                self.assertNotEqual(faults(text), [])
        for text in BAD_CLASSES:
            with self.subTest(text=text):
                self.assertNotEqual(faults_of_methods([ast.parse(text)]), [])


if __name__ == "__main__":
    unittest.main()
