"""The language rules, checked on the package as far as a reading of its code alone goes; where that is easier, a
check is narrower than the rule."""

import ast
import builtins
import os
import re
import unittest

ROOT = os.path.dirname(os.path.dirname(os.path.abspath(__file__)))
PACKAGE = "paneworks"

NODES = set("""Module Expr Constant ImportFrom alias FunctionDef arguments arg Lambda ClassDef Assign AugAssign
If While For Return Break Continue Pass Raise Try ExceptHandler Name Load Store Attribute Subscript Slice Call
keyword List Tuple Dict Set BinOp UnaryOp BoolOp Compare IfExp ListComp comprehension JoinedStr FormattedValue
Add Sub Mult FloorDiv Mod Pow BitAnd BitOr BitXor LShift RShift Invert UAdd USub Not And Or
Eq NotEq Lt LtE Gt GtE Is IsNot In NotIn""".split())
ERRORS = set("""Exception ValueError TypeError KeyError IndexError LookupError ZeroDivisionError ArithmeticError
OverflowError RuntimeError NotImplementedError AttributeError StopIteration""".split())
BUILTINS = ERRORS | set("""len range enumerate zip min max sum abs sorted reversed int str bool list tuple dict set
frozenset isinstance ord repr any all divmod""".split())
METHODS = set("""append clear copy count endswith extend find get index insert isalnum isalpha isdigit islower
isspace isupper items join keys ljust lower lstrip partition pop remove replace reverse rfind rjust rpartition rsplit
rstrip setdefault split splitlines startswith strip update upper values zfill bit_length""".split())
FIELD_NAMES = set("count index title find get join lower upper split strip copy add".split())
DUNDERS = {"__init__", "__eq__", "__repr__", "__str__", "__len__"}
OWN_VALUES = (str, int, list, dict, set, tuple, bytes)
UNUSED = set("""register mro elements open input version_info with_traceback add_note format format_map attrgetter
breakpoint builtins compile copyright credits delattr dir eval exec exit gc getattr globals hasattr help id importlib
license locals methodcaller os quit setattr super vars sys""".split())
WORDS = re.compile(r"\b(type|typing|typing_extensions|enum|Enum|IntEnum|StrEnum|Flag|IntFlag|Generic|Protocol|ABC"
                   r"|ABCMeta|namedtuple|NamedTuple|TypedDict|TYPE_CHECKING|abstractmethod)\b"
                   r"|dataclass|overload|contextmanager")
WALKED = {"zip", "enumerate", "reversed", "range"}
WALKED_METHODS = {"items", "keys", "values"}
WALKERS = {"list", "tuple", "dict", "sorted", "sum", "any", "all", "enumerate", "zip", "min", "max"}
CHANGES = {"append", "clear", "extend", "insert", "pop", "remove", "reverse", "setdefault", "update"}
KINDS = {"int", "str", "bool", "list", "tuple", "dict"}
KEYS = {"len", "int", "str", "abs", "sum", "min", "max", "tuple"}
KEYWORDS = {"sorted": {"key", "reverse"}, "min": {"key", "default"}, "max": {"key", "default"}, "sum": {"start"},
            "enumerate": {"start"}, "zip": {"strict"}}


def sources():
    folder = os.path.join(ROOT, PACKAGE)
    found = {}
    for name in sorted(os.listdir(folder)):
        if name != "__pycache__":
            with open(os.path.join(folder, name), encoding="utf-8", newline="") as handle:
                found[name] = handle.read()
    return found


def is_plain(node, defs):
    if isinstance(node, (ast.List, ast.Tuple)):
        return all(is_plain(one, defs) for one in node.elts)
    if isinstance(node, ast.Dict):
        return all(one is not None and is_plain(one, defs) for one in node.keys + node.values)
    if isinstance(node, ast.UnaryOp) and isinstance(node.op, ast.USub):
        return isinstance(node.operand, ast.Constant)
    return isinstance(node, ast.Constant) or isinstance(node, ast.Name) and node.id in defs


def text_faults(name, text):
    if not re.fullmatch(r"[a-z0-9_]+\.py", name):
        yield "L1 a file's name"
    lines = text.split("\n")
    if len(lines) > 401 or any(len(line) > 120 for line in lines):
        yield "L10 size"
    if any(not (" " <= sign <= "~" or sign == "\n") for sign in text):
        yield "L14 a sign"
    if WORDS.search(text):
        yield "L17 a word"


def top_faults(tree):
    bound = []
    for place, node in enumerate(tree.body):
        if isinstance(node, ast.Expr):
            if place != 0 or not isinstance(node.value, ast.Constant) or not isinstance(node.value.value, str):
                yield "L3 a statement at the top"
        elif isinstance(node, ast.ImportFrom):
            if node.level != 0 or not node.module.startswith(PACKAGE + "."):
                yield "L2 an import"
            bound.extend(one.asname or one.name for one in node.names)
        elif isinstance(node, (ast.FunctionDef, ast.ClassDef)):
            bound.append(node.name)
        elif isinstance(node, ast.Assign) and is_plain(node.value, bound):
            bound.append(node.targets[0].id)
        else:
            yield "L3 a statement at the top"
    if len(set(bound)) != len(bound):
        yield "L15 a name bound twice"


def def_faults(node):
    args = node.args
    if args.vararg or args.kwarg or args.kwonlyargs or args.posonlyargs or node.decorator_list:
        yield "L4 a parameter or decorator"
    if node.returns or any(one.annotation for one in args.args):
        yield "L21 an annotation"
    if node.end_lineno - node.lineno + 1 > 40:
        yield "L10 a long function"


def class_faults(node, tree):
    if node not in tree.body or len(node.bases) > 1 or node.keywords or node.decorator_list:
        yield "L5 a class"
    methods = [one.name for one in node.body if isinstance(one, ast.FunctionDef)]
    if any(not isinstance(one, (ast.FunctionDef, ast.Pass)) for one in node.body):
        yield "L5 a value in a class"
    if len(set(methods)) != len(methods):
        yield "L18 a method twice"


def name_faults(node):
    for field in ("id", "attr", "name", "arg"):
        name = getattr(node, field, None)
        if isinstance(name, str):
            if name.startswith("_") and name not in DUNDERS or not name.isascii():
                yield "L12 a name"
            if name in UNUSED:
                yield "L17 a name that is not used"
    if isinstance(node, ast.Name) and hasattr(builtins, node.id) and node.id not in BUILTINS:
        yield "L8 a name of Python's own"


def bound_faults(tree):
    taken = {node.name for node in tree.body if isinstance(node, ast.ClassDef)}
    for node in tree.body:
        if isinstance(node, ast.ImportFrom):
            taken.update(one.asname or one.name for one in node.names)
    for node in ast.walk(tree):
        name = node.arg if isinstance(node, ast.arg) else None
        if isinstance(node, ast.Name) and isinstance(node.ctx, ast.Store):
            name = node.id
        if name is not None and (name in taken or hasattr(builtins, name)):
            yield "L15 a local called like something else"


def is_singleton(node):
    return isinstance(node, ast.Constant) and (node.value is None or node.value is True or node.value is False)


def node_faults(node):
    kind = node.__class__.__name__
    if kind not in NODES:
        yield "L6 L7 " + kind
    if isinstance(node, ast.Constant) and not isinstance(node.value, (int, str, type(None))):
        yield "L7 a value"
    if isinstance(node, ast.Constant) and isinstance(node.value, str) and "%" in node.value:
        yield "L27 a sign in a text"
    if isinstance(node, ast.Assign) and len(node.targets) != 1:
        yield "L6 two targets"
    if isinstance(node, (ast.For, ast.While)) and node.orelse:
        yield "L6 an else behind a loop"
    if isinstance(node, ast.Try) and node.finalbody:
        yield "L6 finally"
    if isinstance(node, ast.ExceptHandler) and (node.type is None or ast.unparse(node.type) in
                                                ("Exception", "TypeError", "BaseException")):
        yield "L19 a handler"
    if isinstance(node, ast.ListComp) and (len(node.generators) != 1 or len(node.generators[0].ifs) > 1):
        yield "L7 a comprehension"
    if isinstance(node, ast.Compare) and any(isinstance(one, (ast.Is, ast.IsNot)) for one in node.ops):
        if not any(is_singleton(one) for one in [node.left] + node.comparators):
            yield "L20 is"
    if isinstance(node, ast.BinOp) and isinstance(node.op, ast.Pow):
        if not isinstance(node.right, ast.Constant) or node.right.value not in range(65):
            yield "L27 an exponent"


def called(node):
    """The name by which a plain name is called, or None."""
    return node.func.id if isinstance(node, ast.Call) and isinstance(node.func, ast.Name) else None


def is_walk(node):
    if called(node) in WALKED:
        return True
    return isinstance(node, ast.Call) and isinstance(node.func, ast.Attribute) and node.func.attr in WALKED_METHODS


def is_walked_at_once(node, above):
    if isinstance(above, (ast.For, ast.comprehension)):
        return above.iter is node
    if called(above) in ("min", "max"):
        return above.args == [node]
    if called(above) in WALKERS:
        return above.args[0] is node
    return (isinstance(above, ast.Call) and isinstance(above.func, ast.Attribute) and above.func.attr == "join"
            and isinstance(above.func.value, ast.Constant))


def is_set_on_the_spot(node, parents):
    above = parents[node]
    while isinstance(above, ast.BinOp):
        node = above
        above = parents[node]
    if called(above) in ("sorted", "len"):
        return above.args == [node] and not above.keywords
    return isinstance(above, ast.Compare) and isinstance(above.ops[0], (ast.In, ast.NotIn, ast.Eq, ast.NotEq))


def walk_faults(node, parents):
    """L23, L24 and of L13 what has to do with sets."""
    if is_walk(node) and not is_walked_at_once(node, parents[node]):
        yield "L23 kept, not walked"
    if isinstance(node, ast.Set):
        yield "L13 L24 a set written out"
    if called(node) in ("set", "frozenset") and not is_set_on_the_spot(node, parents):
        yield "L24 a set kept or walked"
    if isinstance(node, ast.For):
        walked = node.iter
        while is_walk(walked):
            walked = walked.args[0] if walked.args else walked.func.value if called(walked) is None else None
        if isinstance(walked, (ast.Name, ast.Attribute, ast.Subscript)):
            for one in ast.walk(node):
                if changes(one, ast.unparse(walked)):
                    yield "L23 changed while it is walked"


def changes(node, text):
    if isinstance(node, ast.Call) and isinstance(node.func, ast.Attribute) and node.func.attr in CHANGES:
        return ast.unparse(node.func.value) == text
    return (isinstance(node, ast.Subscript) and isinstance(node.ctx, ast.Store)
            and ast.unparse(node.value) == text)


def own_name_faults(node, parents, classes):
    """L22: how Python's own names are called; L18: where a class stands."""
    above = parents.get(node)
    if isinstance(node, ast.Name) and isinstance(node.ctx, ast.Load) and node.id in BUILTINS | classes:
        stands = isinstance(above, ast.Call) and above.func is node
        is_error = node.id in ERRORS or node.id in classes
        stands = stands or is_error and isinstance(above, (ast.ExceptHandler, ast.ClassDef, ast.Raise))
        stands = stands or isinstance(above, ast.keyword) and above.arg == "key" and node.id in KEYS
        around = parents.get(above) if isinstance(above, ast.Tuple) else above
        stands = stands or called(around) == "isinstance" and (node.id in KINDS or node.id in classes)
        if not stands:
            yield "L18 L22 kept as a value"
    if isinstance(node, ast.Call) and (called(node) in BUILTINS or isinstance(node.func, ast.Attribute)):
        if {one.arg for one in node.keywords} - KEYWORDS.get(called(node), set()):
            yield "L22 a keyword"
    if isinstance(node, ast.Attribute) and node.attr in METHODS - FIELD_NAMES:
        if not (isinstance(above, ast.Call) and above.func is node or isinstance(above, ast.keyword)):
            yield "L25 a method handed on"


def error_faults(node):
    """L19, narrower: no error of Python's own is taken but the free ones; each is made where it is raised."""
    if isinstance(node, ast.Raise) and not isinstance(node.exc, ast.Call):
        yield "L19 not made on the spot"
    if isinstance(node, ast.ExceptHandler) and node.type is not None:
        taken = {one.id for one in ast.walk(node.type) if isinstance(one, ast.Name)}
        if taken & ERRORS - {"KeyError", "ZeroDivisionError", "StopIteration"}:
            yield "L19 an error of Python's own"


def dunder_faults(node):
    """L28, narrower: of the methods with two underscores only the first is written at all."""
    if isinstance(node, ast.FunctionDef) and node.name.startswith("__"):
        if node.name != "__init__" or any(isinstance(one, ast.Return) and one.value for one in ast.walk(node)):
            yield "L28 a method with two underscores"


def lambda_faults(tree):
    lines = [node.lineno for node in ast.walk(tree) if isinstance(node, ast.Lambda)]
    if len(set(lines)) != len(lines):
        yield "L13 two lambdas on one line"


def form_faults(tree):
    parents = {one: node for node in ast.walk(tree) for one in ast.iter_child_nodes(node)}
    classes = {node.name for node in tree.body if isinstance(node, ast.ClassDef)}
    yield from lambda_faults(tree)
    for node in ast.walk(tree):
        yield from walk_faults(node, parents)
        yield from own_name_faults(node, parents, classes)
        yield from error_faults(node)
        yield from dunder_faults(node)


def faults_of(name, text):
    tree = ast.parse(text)
    faults = list(text_faults(name, text)) + list(top_faults(tree)) + list(bound_faults(tree))
    faults.extend(form_faults(tree))
    for node in ast.walk(tree):
        faults.extend(node_faults(node))
        if isinstance(node, ast.FunctionDef):
            faults.extend(def_faults(node))
        if isinstance(node, ast.ClassDef):
            faults.extend(class_faults(node, tree))
        faults.extend(name_faults(node))
    return faults


def methods_and_fields(trees):
    methods = set()
    fields = set()
    for tree in trees:
        for node in ast.walk(tree):
            if isinstance(node, ast.ClassDef):
                methods.update(one.name for one in node.body if isinstance(one, ast.FunctionDef))
            if isinstance(node, ast.Attribute) and isinstance(node.ctx, ast.Store):
                fields.add(node.attr)
    return methods - DUNDERS, fields


def drawn_from(tree):
    return [node.module.split(".")[-1] + ".py" for node in tree.body if isinstance(node, ast.ImportFrom)]


def reached_from(name, trees):
    reached = set()
    waiting = drawn_from(trees[name])
    while waiting:
        one = waiting.pop()
        if one not in reached:
            reached.add(one)
            waiting.extend(drawn_from(trees[one]))
    return reached


class PackageTest(unittest.TestCase):
    def setUp(self):
        self.texts = sources()
        self.trees = {name: ast.parse(text) for name, text in self.texts.items()}

    def test_each_file_keeps_to_the_rules(self):
        self.assertIn("__init__.py", self.texts)
        for name, text in self.texts.items():
            with self.subTest(name=name):
                self.assertEqual(faults_of(name, text), [])

    def test_each_import_names_the_file_that_defines(self):
        for name, tree in self.trees.items():
            for node in tree.body:
                if isinstance(node, ast.ImportFrom):
                    source = self.trees[node.module.split(".")[-1] + ".py"]
                    defined = [one.name for one in source.body if isinstance(one, (ast.FunctionDef, ast.ClassDef))]
                    defined += [one.targets[0].id for one in source.body if isinstance(one, ast.Assign)]
                    for one in node.names:
                        self.assertIn(one.name, defined, name)

    def test_no_two_files_draw_from_one_another(self):
        for name in self.trees:
            self.assertNotIn(name, reached_from(name, self.trees))

    def test_methods_and_fields(self):
        methods, fields = methods_and_fields(self.trees.values())
        self.assertEqual(methods & fields, set())
        own = {name for value in OWN_VALUES for name in dir(value)}
        self.assertEqual((methods & own) - METHODS - {"add", "discard"}, set())
        self.assertEqual((fields & own) - FIELD_NAMES, set())
        for name, tree in self.trees.items():
            for node in ast.walk(tree):
                if isinstance(node, ast.Attribute):
                    self.assertIn(node.attr, methods | fields | METHODS | DUNDERS, name)


class RulesTest(unittest.TestCase):
    def test_wrong_code_is_found(self):
        wrong = {
            "import sys\n": "L6 L7 Import",
            "x = 10 / 2\n": "L3",
            "def f():\n    return 1 / 2\n": "L6 L7 Div",
            "def f():\n    return 1.5\n": "L7",
            "def f(*xs):\n    return xs\n": "L4",
            "def f(x: int):\n    return x\n": "L21",
            "def f(id):\n    return id\n": "L15",
            "def f():\n    return chr(1)\n": "L8",
            "def f(x):\n    x = y = 1\n": "L6 two",
            "def f(n):\n    return 2 ** n\n": "L27",
            "def f(a, b):\n    return a is b\n": "L20",
            "def f(a):\n    return (b for b in a)\n": "L6 L7 GeneratorExp",
            "def f(a):\n    x = range(a)\n    return x\n": "L23",
            "def f(a):\n    try:\n        return a\n    except Exception:\n        return 1\n": "L19",
            "def f(a):\n    try:\n        return g(a)\n    except ValueError:\n        return 1\n": "L19",
            "def f(a):\n    raise a\n": "L19",
            "def f(d):\n    return d.items()\n": "L23",
            "def f(a):\n    return len(range(a))\n": "L23",
            "def f(a, b):\n    return list(zip(a, range(b)))\n": "L23",
            "def f(d):\n    for k in d:\n        d.pop(k)\n": "L23",
            "def f(d):\n    for k, v in d.items():\n        d[k] = 1\n": "L23",
            "def f(xs):\n    for k, x in enumerate(xs):\n        xs[k] = 1\n": "L23",
            "def f(a):\n    x = set(a)\n    return x\n": "L24",
            "def f(a):\n    return [x for x in set(a)]\n": "L24",
            "def f(a):\n    return a in {1, 2, 3}\n": "L13",
            "def f(a):\n    return sorted(a, key=lambda x: x, reverse=True), min(a, key=lambda x: x)\n": "L13",
            "def f(a):\n    return g(len, a)\n": "L18 L22",
            "class C:\n    pass\n\n\ndef f():\n    return [C]\n": "L18 L22",
            "def f(a):\n    return int(a, base=2)\n": "L22",
            "def f(a):\n    x = a.append\n    return x\n": "L25",
            "class C:\n    def __len__(self):\n        return 1\n": "L28",
            "class C:\n    def __init__(self):\n        return None\n": "L28",
            "class C:\n    x = 1\n": "L5",
            "# the type of it\n": "L17",
            "def _f():\n    return 1\n": "L12",
            "def f():\n\treturn 1\n": "L14",
            "def f():\n" + "    x = 1\n" * 40: "L10",
            "def f():\n    return 1\n\n\ndef f():\n    return 2\n": "L15",
        }
        for text, rule in wrong.items():
            with self.subTest(text=text):
                faults = faults_of("plain.py", text)
                self.assertTrue(any(fault.startswith(rule) for fault in faults), faults)

    def test_plain_code_is_not(self):
        text = '"""Words."""\n\nMANY = -4\n\n\ndef f(x):\n    return [one + 10 ** 60 for one in x if one is not None]\n'
        self.assertEqual(faults_of("plain.py", text), [])
        text = """
from paneworks.errors import NoRow


class C(NoRow):
    def __init__(self, xs):
        self.xs = list(xs)


def f(xs, d):
    for x in list(d):
        d.pop(x)
    for k, x in enumerate(reversed(xs)):
        d[k] = x
    if not isinstance(xs, (list, C)) or 3 in set(xs) - set(d):
        raise C(sorted(xs, key=len, reverse=True))
    try:
        return min(d.values(), default=0) + sum([x for x in range(3)])
    except KeyError:
        return len(set(xs) | set(d))
"""
        self.assertEqual(faults_of("plain.py", text), [])


if __name__ == "__main__":
    unittest.main()
