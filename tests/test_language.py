"""The rules of LANGUAGE.md that can be seen in the package's files one by one.

It sees the plainest of them, not all: L1 to L10, L12, L14 to L28 in part.
Point 2 hangs on it, too: what draws from the package alone has no clock, chance or files.
"""

import ast
import builtins
import re
import unittest
from pathlib import Path

PACKAGE = Path(__file__).resolve().parent.parent / "boxnarrow"

STATEMENTS = (
    ast.Assign, ast.AugAssign, ast.If, ast.While, ast.For, ast.Return, ast.Break, ast.Continue, ast.Pass, ast.Raise,
    ast.Try, ast.Expr, ast.FunctionDef, ast.ClassDef, ast.ImportFrom,
)
TOP = (ast.Assign, ast.FunctionDef, ast.ClassDef, ast.ImportFrom)
EXPRESSIONS = (
    ast.BinOp, ast.UnaryOp, ast.BoolOp, ast.Compare, ast.IfExp, ast.Call, ast.Attribute, ast.Subscript, ast.Slice,
    ast.Name, ast.Constant, ast.List, ast.Tuple, ast.Dict, ast.Set, ast.ListComp, ast.JoinedStr, ast.FormattedValue,
    ast.Lambda,
)
BUILTINS = set("""
    len range enumerate zip min max sum abs sorted reversed int str bool list tuple dict set frozenset isinstance ord
    repr any all divmod Exception ValueError TypeError KeyError IndexError LookupError ZeroDivisionError
    ArithmeticError OverflowError RuntimeError NotImplementedError AttributeError StopIteration
""".split())
METHODS = set("""
    append clear copy count endswith extend find get index insert isalnum isalpha isdigit islower isspace isupper items
    join keys ljust lower lstrip partition pop remove replace reverse rfind rjust rpartition rsplit rstrip setdefault
    split splitlines startswith strip update upper values zfill bit_length
""".split())
PYTHONS = set(vars(builtins))
# Python's own that are walked at once, what may walk them, and what may be called with which keywords.
WALKED = ("zip", "enumerate", "reversed", "range")
WALKED_METHODS = ("items", "keys", "values")
WALKERS = ("list", "tuple", "dict", "sorted", "sum", "any", "all", "enumerate", "zip", "min", "max")
KEYWORDS = {
    "sorted": ("key", "reverse"), "min": ("key", "default"), "max": ("key", "default"), "sum": ("start",),
    "enumerate": ("start",), "zip": ("strict",),
}
KINDS = ("int", "str", "bool", "list", "tuple", "dict")
# The methods and values of Python's own kinds, and of them those that a method, or a value, may be called like.
TAKEN = {name for kind in (str, int, list, tuple, dict, set, bytes) for name in dir(kind) if not name.startswith("__")}
FREE_METHODS = METHODS | {"add", "discard"}
FREE_VALUES = set("count index title find get join lower upper split strip copy add".split())
SPECIAL = ("__init__", "__eq__", "__repr__", "__str__", "__len__")
WORDS = re.compile(
    r"\b(type|typing|typing_extensions|enum|Enum|IntEnum|StrEnum|Flag|IntFlag|Generic|Protocol|ABC|ABCMeta|namedtuple"
    r"|NamedTuple|TypedDict|TYPE_CHECKING|abstractmethod)\b|dataclass|overload|contextmanager"
)


def text_faults(text):
    rows = text.split("\n")
    if any(sign != "\n" and not " " <= sign <= "~" for sign in text):
        yield "L14 a sign that is none of those allowed"
    if len(rows) > 401:
        yield "L10 a file of more than 400 lines"
    if any(len(row) > 120 for row in rows):
        yield "L10 a line of more than 120 characters"
    if WORDS.search(text):
        yield "L17 a word that stands nowhere"


def statement_faults(node):
    if not isinstance(node, STATEMENTS):
        yield f"L6 {type(node).__name__}"
    if isinstance(node, ast.Assign) and len(node.targets) != 1:
        yield "L6 more than one target"
    if isinstance(node, (ast.For, ast.While)) and node.orelse:
        yield "L6 else behind a loop"
    if isinstance(node, ast.Try) and node.finalbody:
        yield "L6 finally"
    if isinstance(node, ast.Expr) and not isinstance(node.value, ast.Call):
        yield "L6 an expression by itself that is no call"
    if isinstance(node, ast.ImportFrom) and node.module != "__future__":
        if node.level or not node.module.startswith("boxnarrow.") or any(name.name == "*" for name in node.names):
            yield "L2 an import that is not of the package's own"


def def_faults(node):
    given = node.args
    if given.vararg or given.kwarg or given.kwonlyargs or given.posonlyargs:
        yield "L4 parameters that are not plain"
    if isinstance(node, ast.FunctionDef):
        if node.decorator_list:
            yield "L4 a decorator"
        if node.end_lineno - node.lineno >= 40:
            yield "L10 a function of more than 40 lines"
        if node.returns or any(argument.annotation for argument in given.args):
            yield "L21 an annotation"


def class_faults(node):
    if node.decorator_list or node.keywords or len(node.bases) > 1:
        yield "L5 a class that is not plain"
    if not all(isinstance(part, (ast.FunctionDef, ast.Pass)) for part in node.body):
        yield "L5 a value in a class body"


def expression_faults(node):
    if not isinstance(node, EXPRESSIONS):
        yield f"L7 {type(node).__name__}"
    if isinstance(node, ast.Constant):
        if not isinstance(node.value, (int, str, type(None))):
            yield "L7 a value that is no whole number, text, truth or None"
        if isinstance(node.value, str) and "%" in node.value:
            yield "L27 a sign within a text"
    if isinstance(node, ast.BinOp) and isinstance(node.op, (ast.Div, ast.MatMult)):
        yield "L7 an operator"
    if isinstance(node, ast.BinOp) and isinstance(node.op, ast.Pow):
        if not (isinstance(node.right, ast.Constant) and 0 <= node.right.value <= 64):
            yield "L27 an exponent that is not written"
    if isinstance(node, ast.Compare):
        for op, right in zip(node.ops, node.comparators):
            beside = isinstance(right, ast.Constant) and (right.value is None or isinstance(right.value, bool))
            if isinstance(op, (ast.Is, ast.IsNot)) and not beside:
                yield "L20 is"
    if isinstance(node, ast.ListComp) and (len(node.generators) != 1 or len(node.generators[0].ifs) > 1):
        yield "L7 a comprehension with more than one for or if"


def name_faults(node, methods):
    if isinstance(node, ast.Name):
        if node.id in PYTHONS and (node.id not in BUILTINS or not isinstance(node.ctx, ast.Load)):
            yield f"L8 {node.id}"
        if node.id.startswith("_"):
            yield f"L12 {node.id}"
    if isinstance(node, ast.arg) and (node.arg in PYTHONS or node.arg.startswith("_")):
        yield f"L15 {node.arg}"
    if isinstance(node, (ast.FunctionDef, ast.ClassDef)):
        if node.name in PYTHONS or node.name.startswith("_") and node.name not in SPECIAL:
            yield f"L12 {node.name}"
    if isinstance(node, ast.Call) and isinstance(node.func, ast.Attribute):
        if node.func.attr not in METHODS and node.func.attr not in methods and node.func.attr != "__init__":
            yield f"L25 {node.func.attr}"


def kept_at_the_top(tree):
    """The names of a file's top that are given a list or a dict."""
    return [
        target.id
        for node in tree.body if isinstance(node, ast.Assign) and isinstance(node.value, (ast.List, ast.Dict))
        for target in node.targets if isinstance(target, ast.Name)
    ]


def only_read(node, above):
    """Whether the name node, of a list or dict, is only read in what stands straight above it."""
    if isinstance(above, ast.Subscript):
        return above.value is node and isinstance(above.ctx, ast.Load)
    if isinstance(above, ast.Attribute):
        return above.attr in ("get", "items", "keys", "values", "index", "count", "copy")
    if isinstance(above, ast.Call):
        return isinstance(above.func, ast.Name) and above.func.id in BUILTINS
    if isinstance(above, (ast.For, ast.comprehension)):
        return above.iter is node
    return isinstance(above, ast.Compare)


def handing_faults(tree):
    kept = kept_at_the_top(tree)
    for above in ast.walk(tree):
        for node in ast.iter_child_nodes(above):
            if isinstance(node, ast.Name) and isinstance(node.ctx, ast.Load) and node.id in kept:
                if not only_read(node, above):
                    yield f"L15 {node.id} is not only read"


def naming_faults(tree):
    """Parameters and locals that are called like a class or an import of their file."""
    taken = {node.name for node in tree.body if isinstance(node, ast.ClassDef)}
    for node in tree.body:
        if isinstance(node, ast.ImportFrom):
            taken |= {name.name for name in node.names}
    for node in ast.walk(tree):
        name = node.arg if isinstance(node, ast.arg) else None
        if isinstance(node, ast.Name) and isinstance(node.ctx, ast.Store):
            name = node.id
        if name in taken:
            yield f"L15 {name} is a class or an import"


def is_walked(node):
    if not isinstance(node, ast.Call):
        return False
    if isinstance(node.func, ast.Name):
        return node.func.id in WALKED
    return isinstance(node.func, ast.Attribute) and node.func.attr in WALKED_METHODS


def walked_at_once(node, above):
    if isinstance(above, (ast.For, ast.comprehension)):
        return above.iter is node
    if not isinstance(above, ast.Call) or not above.args or above.args[0] is not node:
        # zip may walk several.
        return isinstance(above, ast.Call) and isinstance(above.func, ast.Name) and above.func.id == "zip"
    if isinstance(above.func, ast.Name):
        return above.func.id in WALKERS
    return isinstance(above.func, ast.Attribute) and above.func.attr == "join" and isinstance(above.func.value, ast.Constant)


def is_set(node):
    if isinstance(node, ast.Call):
        return isinstance(node.func, ast.Name) and node.func.id in ("set", "frozenset")
    return isinstance(node, ast.Set)


def set_beside(above):
    if isinstance(above, ast.Call):
        return isinstance(above.func, ast.Name) and above.func.id in ("sorted", "len") and not above.keywords
    return isinstance(above, (ast.Compare, ast.BinOp))


def kept_as_a_value(node, above):
    """Whether the name node, of a function of Python's own, is not called but kept."""
    if isinstance(above, ast.Call):
        return above.func is not node and not (isinstance(above.func, ast.Name) and above.func.id == "isinstance")
    return not isinstance(above, (ast.keyword, ast.Raise, ast.ExceptHandler, ast.ClassDef, ast.Tuple))


def use_faults(tree):
    for above in ast.walk(tree):
        for node in ast.iter_child_nodes(above):
            if is_walked(node) and not walked_at_once(node, above):
                yield "L23 not walked at once"
            if is_set(node) and not set_beside(above):
                yield "L24 a set that is kept"
            if isinstance(node, ast.Name) and node.id in BUILTINS and kept_as_a_value(node, above):
                yield f"L22 {node.id} is kept"


def call_faults(node):
    if isinstance(node, ast.Call) and node.keywords:
        name = node.func.id if isinstance(node.func, ast.Name) else ""
        told = KEYWORDS.get(name, ())
        if (name in BUILTINS or not name) and any(keyword.arg not in told for keyword in node.keywords):
            yield f"L22 a keyword at {name}"
    if isinstance(node, ast.Call) and isinstance(node.func, ast.Name) and node.func.id == "isinstance":
        kinds = node.args[1].elts if isinstance(node.args[1], ast.Tuple) else [node.args[1]]
        if not all(isinstance(kind, ast.Name) and (kind.id in KINDS or kind.id not in PYTHONS) for kind in kinds):
            yield "L22 isinstance"


def error_faults(node):
    if isinstance(node, ast.ExceptHandler):
        names = node.type.elts if isinstance(node.type, ast.Tuple) else [node.type]
        if not all(isinstance(name, ast.Name) and name.id not in ("Exception", "TypeError") for name in names):
            yield "L19 an error that is not taken by its name"
    if isinstance(node, ast.Raise) and not isinstance(node.exc, ast.Call):
        yield "L19 an error that is not made on the spot"
    if isinstance(node, ast.FunctionDef) and node.name == "__init__":
        if any(isinstance(part, ast.Return) and part.value is not None for part in ast.walk(node)):
            yield "L28 __init__ gives something back"


def tree_faults(text, methods):
    tree = ast.parse(text)
    yield from handing_faults(tree)
    yield from use_faults(tree)
    yield from naming_faults(tree)
    body = tree.body
    if ast.get_docstring(tree) is not None:
        body = body[1:]
        tree.body = body
    for node in body:
        if not isinstance(node, TOP):
            yield f"L3 {type(node).__name__}"
    for node in ast.walk(tree):
        if isinstance(node, ast.stmt):
            yield from statement_faults(node)
        if isinstance(node, ast.expr):
            yield from expression_faults(node)
        if isinstance(node, (ast.FunctionDef, ast.Lambda)):
            yield from def_faults(node)
        if isinstance(node, ast.ClassDef):
            yield from class_faults(node)
        yield from name_faults(node, methods)
        yield from call_faults(node)
        yield from error_faults(node)


def faults(text, methods=()):
    return sorted(set(text_faults(text)) | set(tree_faults(text, methods)))


def package_texts():
    return {path.stem: path.read_text(encoding="utf-8") for path in sorted(PACKAGE.glob("*.py"))}


def own_methods(texts):
    return {
        part.name
        for text in texts.values() for node in ast.parse(text).body if isinstance(node, ast.ClassDef)
        for part in node.body if isinstance(part, ast.FunctionDef)
    }


def own_values(texts):
    """The names of the values that objects are given."""
    return {
        node.attr
        for text in texts.values() for node in ast.walk(ast.parse(text))
        if isinstance(node, ast.Attribute) and isinstance(node.ctx, ast.Store)
    }


def own_names(text):
    """The names that a file defines itself, at its top."""
    names = []
    for node in ast.parse(text).body:
        if isinstance(node, (ast.FunctionDef, ast.ClassDef)):
            names.append(node.name)
        if isinstance(node, ast.Assign):
            names.extend(target.id for target in node.targets if isinstance(target, ast.Name))
    return names


def draws(text):
    """What a file draws from others: tuples (file, name)."""
    return [
        (node.module.partition(".")[2], name.name)
        for node in ast.parse(text).body if isinstance(node, ast.ImportFrom) and node.module != "__future__"
        for name in node.names
    ]


class Files(unittest.TestCase):
    def test_nothing_else_lies_there(self):
        for path in PACKAGE.iterdir():
            if path.name != "__pycache__":
                self.assertRegex(path.name, r"\A([a-z][a-z0-9_]*|__init__|__main__)\.py\Z")

    def test_rules(self):
        texts = package_texts()
        self.assertIn("__init__", texts)
        for stem, text in texts.items():
            with self.subTest(file=stem):
                self.assertEqual(faults(text, own_methods(texts)), [])

    def test_methods_and_values(self):
        texts = package_texts()
        methods = own_methods(texts) - set(SPECIAL)
        values = own_values(texts)
        self.assertEqual(methods & values, set(), "L18")
        self.assertEqual(methods & TAKEN - FREE_METHODS, set(), "L26")
        self.assertEqual(values & TAKEN - FREE_VALUES, set(), "L26")
        self.assertEqual([name for name in methods | values if name.startswith("_")], [], "L12")

    def test_each_name_is_bound_once(self):
        for stem, text in package_texts().items():
            with self.subTest(file=stem):
                names = own_names(text) + [name for module, name in draws(text)]
                self.assertEqual(sorted(names), sorted(set(names)))

    def test_names_are_drawn_from_where_they_are_defined(self):
        texts = package_texts()
        for stem, text in texts.items():
            for module, name in draws(text):
                with self.subTest(file=stem, module=module, name=name):
                    self.assertIn(name, own_names(texts[module]))

    def test_no_two_files_draw_from_one_another(self):
        left = {stem: {module for module, name in draws(text)} for stem, text in package_texts().items()}
        while left:
            free = [stem for stem, modules in left.items() if not modules & set(left)]
            self.assertNotEqual(free, [], f"a ring among {sorted(left)}")
            for stem in free:
                left.pop(stem)


class Sight(unittest.TestCase):
    """The rules' looker sees what breaks them."""

    def test_broken_rules_are_seen(self):
        broken = (
            ("L2", "from random import choice\n"), ("L2", "from .errors import NoRow\n"), ("L6", "import time\n"),
            ("L3", "print(1)\n"), ("L4", "def f(*a):\n    return a\n"), ("L5", "class A:\n    x = 1\n"),
            ("L6", "def f(a):\n    a = b = 1\n"), ("L6", "def f(a):\n    del a\n"), ("L6", "def f(a):\n    'why'\n"),
            ("L7", "X = 1.5\n"), ("L7", "def f(a):\n    return a / 2\n"), ("L7", "def f(a):\n    return {x for x in a}\n"),
            ("L8", "def f(a):\n    return hash(a)\n"), ("L8", "def f(a):\n    return open(a)\n"),
            ("L10", "X = 1\n" * 401), ("L10", "# " + "x" * 120 + "\n"), ("L12", "def _f(a):\n    return a\n"),
            ("L10", "def f(a):\n" + "    a = a + 1\n" * 40), ("L14", "X = 1\t\n"), ("L15", "def f(id):\n    return 1\n"),
            ("L15", "X = {1: 2}\n\n\ndef f(a):\n    return a(X)\n"), ("L15", "X = [1]\n\n\ndef f(a):\n    return X\n"),
            ("L15", "X = [1]\n\n\ndef f(a):\n    X[0] = a\n"), ("L15", "X = [1]\n\n\ndef f(a):\n    X.append(a)\n"),
            ("L15", "from boxnarrow.spans import hull\n\n\ndef f(a):\n    hull = a\n    return hull\n"),
            ("L15", "from boxnarrow.spans import hull\n\n\ndef f(hull):\n    return hull\n"),
            ("L15", "class A:\n    pass\n\n\ndef f(a):\n    return [A for A in a]\n"),
            ("L17", "# its type\n"), ("L20", "def f(a, b):\n    return a is b\n"),
            ("L21", "def f(a: int):\n    return a\n"), ("L25", "def f(a):\n    a.sort()\n"),
            ("L27", "def f(a, b):\n    return a ** b\n"), ("L27", "X = 'a % b'\n"),
            ("L19", "def f(a):\n    try:\n        a()\n    except Exception:\n        pass\n"),
            ("L19", "def f(a):\n    try:\n        a()\n    except:\n        pass\n"), ("L19", "def f(a):\n    raise a\n"),
            ("L22", "def f(a):\n    return a(len)\n"), ("L22", "def f(a):\n    b = min\n"),
            ("L22", "def f(a):\n    return isinstance(a, set)\n"), ("L22", "def f(a):\n    return int(a, base=2)\n"),
            ("L23", "def f(a):\n    return range(a)\n"), ("L23", "def f(a):\n    for b in reversed(range(a)):\n        a(b)\n"),
            ("L23", "def f(a):\n    b = a.items()\n"), ("L24", "def f(a):\n    b = set(a)\n"),
            ("L24", "def f(a):\n    for b in {1, a}:\n        a(b)\n"),
            ("L28", "class A:\n    def __init__(self):\n        return None\n"),
        )
        for rule, text in broken:
            with self.subTest(text=text[:40]):
                self.assertIn(rule, [fault.split(" ")[0] for fault in faults(text)])

    def test_plain_code_is_let_through(self):
        text = '"""A file."""\n\nfrom boxnarrow.errors import NoRow\n\n\ndef f(a):\n    if a is None:\n' \
               '        raise NoRow("none")\n    return [x ** 2 for x in sorted(a) if x > 0]\n'
        self.assertEqual(faults(text), [])

    def test_walks_and_sets_on_the_spot(self):
        text = 'def f(a):\n    for b, c in enumerate(zip(a, range(9))):\n        a(b, c)\n' \
               '    return ["".join(reversed(a)), list(a.items()), len(set(a)), a in set(a), sorted(a, key=len)]\n'
        self.assertEqual(faults(text), [])

    def test_lists_of_the_top_may_be_read(self):
        text = 'X = {1: 2}\n\n\ndef f(a):\n    return [X[a], a in X, len(X), dict(X), X.get(a), [b for b in X]]\n'
        self.assertEqual(faults(text), [])


if __name__ == "__main__":
    unittest.main()
