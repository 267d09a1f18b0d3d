"""The package keeps to the small part of Python it is written in (what of it can be seen by a walk over the files)."""

import ast
import builtins
import os
import re
import unittest

FOLDER = os.path.join(os.path.dirname(os.path.dirname(os.path.abspath(__file__))), "madeagain")

BUILT_IN = set("""len range enumerate zip min max sum abs sorted reversed int str bool list tuple dict set frozenset
isinstance ord repr any all divmod Exception ValueError TypeError KeyError IndexError LookupError ZeroDivisionError
ArithmeticError OverflowError RuntimeError NotImplementedError AttributeError StopIteration""".split())
METHODS = set("""append clear copy count endswith extend find get index insert isalnum isalpha isdigit islower isspace
isupper items join keys ljust lower lstrip partition pop remove replace reverse rfind rjust rpartition rsplit rstrip
setdefault split splitlines startswith strip update upper values zfill bit_length""".split())
OF_PYTHONS_VALUES = {word for kind in (str, int, list, dict, set, frozenset, tuple, bytes, bytearray) for word in dir(kind)}
WORDS = set("""type typing typing_extensions enum Enum IntEnum StrEnum Flag IntFlag Generic Protocol ABC ABCMeta
namedtuple NamedTuple TypedDict TYPE_CHECKING abstractmethod""".split())
NOT_NAMES = set("""register mro elements open input version_info with_traceback add_note attrgetter breakpoint builtins
compile copyright credits delattr dir eval exec exit gc getattr globals hasattr help id importlib license locals
methodcaller os quit setattr super vars sys format format_map""".split())
SPECIAL = {"__init__", "__eq__", "__repr__", "__str__", "__len__"}

LAZY = {"zip", "enumerate", "reversed", "range"}
LAZY_METHODS = {"items", "keys", "values"}
WALKERS = {"list", "tuple", "dict", "sorted", "sum", "any", "all", "enumerate", "zip"}
KEYWORDS = {"sorted": {"key", "reverse"}, "min": {"key", "default"}, "max": {"key", "default"}, "sum": {"start"},
            "enumerate": {"start"}, "zip": {"strict"}}

STATEMENTS = (ast.FunctionDef, ast.ClassDef, ast.Assign, ast.AugAssign, ast.If, ast.While, ast.For, ast.Return,
              ast.Break, ast.Continue, ast.Pass, ast.Raise, ast.Try, ast.Expr, ast.ImportFrom)
VALUES = (ast.Constant, ast.List, ast.Tuple, ast.Dict, ast.BinOp, ast.UnaryOp, ast.Compare, ast.BoolOp, ast.IfExp,
          ast.Call, ast.Attribute, ast.Subscript, ast.Slice, ast.ListComp, ast.JoinedStr, ast.FormattedValue, ast.Name,
          ast.Lambda, ast.Set)


def files():
    told = []
    for name in sorted(os.listdir(FOLDER)):
        if name != "__pycache__":
            told.append(name)
    return told


def source(name):
    with open(os.path.join(FOLDER, name), encoding="utf-8", newline="") as handle:
        return handle.read()


class Faults:
    """Every fault of one file, as (rule, line)."""

    def __init__(self, text):
        self.text = text
        self.tree = ast.parse(text)
        self.found = []
        self.above = {inner: node for node in ast.walk(self.tree) for inner in ast.iter_child_nodes(node)}
        self.signs()
        self.top()
        for node in ast.walk(self.tree):
            self.node(node)

    def note(self, rule, line):
        self.found.append((rule, line))

    def signs(self):
        rows = self.text.split("\n")
        if len(rows) > 401:
            self.note("L10", 401)
        for line, row in enumerate(rows, 1):
            if len(row) > 120:
                self.note("L10", line)
            if re.search("[^ -~]", row):
                self.note("L14", line)
            if WORDS & set(re.findall(r"\w+", row)) or re.search("dataclass|overload|contextmanager", row):
                self.note("L17", line)

    def top(self):
        bound = []
        for place, node in enumerate(self.tree.body):
            if place == 0 and isinstance(node, ast.Expr) and isinstance(node.value, ast.Constant):
                continue
            if isinstance(node, (ast.FunctionDef, ast.ClassDef)):
                bound.append(node.name)
            elif isinstance(node, ast.Assign) and isinstance(node.targets[0], ast.Name):
                bound.append(node.targets[0].id)
            elif isinstance(node, ast.ImportFrom):
                bound.extend(alias.asname or alias.name for alias in node.names)
            else:
                self.note("L3", node.lineno)
        if len(bound) != len(set(bound)):
            self.note("L15", 1)
        self.bound = bound

    def node(self, node):
        if isinstance(node, ast.stmt):
            self.statement(node)
        if isinstance(node, ast.expr):
            self.value(node)
        if isinstance(node, ast.FunctionDef):
            self.function(node)
        if isinstance(node, ast.ClassDef):
            self.a_class(node)
        if isinstance(node, ast.comprehension) and (len(node.ifs) > 1 or node.is_async):
            self.note("L7", node.target.lineno)
        if isinstance(node, ast.Compare):
            self.comparison(node)
        if isinstance(node, ast.ExceptHandler):
            self.handler(node)

    def statement(self, node):
        if not isinstance(node, STATEMENTS):
            self.note("L6", node.lineno)
        if isinstance(node, ast.Expr) and node is not self.tree.body[0] and not isinstance(node.value, ast.Call):
            self.note("L6", node.lineno)
        if isinstance(node, ast.Assign) and (len(node.targets) > 1 or isinstance(node.targets[0], (ast.Tuple, ast.List))):
            self.note("L6", node.lineno)
        if isinstance(node, (ast.For, ast.While)) and node.orelse or isinstance(node, ast.Try) and node.finalbody:
            self.note("L6", node.lineno)
        if isinstance(node, ast.ImportFrom):
            mine = node.level == 0 and node.module.startswith("madeagain.") and node in self.tree.body
            if not mine or any(alias.name == "*" for alias in node.names):
                self.note("L2", node.lineno)

    def value(self, node):
        if not isinstance(node, VALUES):
            self.note("L7", node.lineno)
        if isinstance(node, ast.Constant) and isinstance(node.value, (float, complex, bytes)):
            self.note("L7", node.lineno)
        if isinstance(node, ast.Constant) and isinstance(node.value, str) and "%" in node.value:
            self.note("L27", node.lineno)
        if isinstance(node, ast.BinOp) and isinstance(node.op, (ast.Div, ast.MatMult)):
            self.note("L7", node.lineno)
        if isinstance(node, ast.ListComp) and len(node.generators) != 1:
            self.note("L7", node.lineno)
        if isinstance(node, ast.FormattedValue) and (node.format_spec or not isinstance(node.value, ast.Name)):
            self.note("L7", node.lineno)
        if isinstance(node, ast.BinOp) and isinstance(node.op, ast.Pow):
            if not isinstance(node.right, ast.Constant) or not 0 <= node.right.value <= 64:
                self.note("L27", node.lineno)
        if isinstance(node, ast.Set):
            self.note("L24", node.lineno)
        if isinstance(node, ast.Call):
            self.call(node)
        if isinstance(node, ast.Name):
            self.name(node)
        if isinstance(node, ast.Attribute):
            self.plain(node.attr, node.lineno)

    def call(self, node):
        called = node.func.id if isinstance(node.func, ast.Name) else ""
        method = node.func.attr if isinstance(node.func, ast.Attribute) else ""
        lazy = called in LAZY or method in LAZY_METHODS
        if lazy and not self.walked_at_once(node):
            self.note("L23", node.lineno)
        if called in ("set", "frozenset") and not self.set_on_the_spot(node):
            self.note("L24", node.lineno)
        own = called in self.bound or method not in ("", *METHODS)
        if not own and {word.arg for word in node.keywords} - KEYWORDS.get(called, set()):
            self.note("L22", node.lineno)
        if called == "isinstance":
            kinds = node.args[1].elts if isinstance(node.args[1], ast.Tuple) else [node.args[1]]
            if not all(isinstance(kind, ast.Name) for kind in kinds):
                self.note("L22", node.lineno)

    def walked_at_once(self, node):
        above = self.above[node]
        if isinstance(above, (ast.For, ast.comprehension)):
            return above.iter is node
        called = above.func.id if isinstance(above, ast.Call) and isinstance(above.func, ast.Name) else ""
        return called in WALKERS and above.args[0] is node or called in ("min", "max") and above.args == [node]

    def set_on_the_spot(self, node):
        above = self.above[node]
        while isinstance(above, ast.BinOp):
            above = self.above[above]
        if isinstance(above, ast.Compare):
            return all(isinstance(op, (ast.In, ast.NotIn, ast.Eq, ast.NotEq)) for op in above.ops)
        return isinstance(above, ast.Call) and isinstance(above.func, ast.Name) and above.func.id in ("sorted", "len")

    def name(self, node):
        self.plain(node.id, node.lineno)
        known = hasattr(builtins, node.id)
        called = isinstance(self.above[node], ast.Call) and self.above[node].func is node
        if node.id in LAZY | {"len", "sorted", "set", "sum", "min", "max", "any", "all"} and not called:
            self.note("L22", node.lineno)
        if known and isinstance(node.ctx, ast.Store):
            self.note("L15", node.lineno)
        if known and node.id not in BUILT_IN:
            self.note("L8", node.lineno)

    def plain(self, word, line):
        if word in NOT_NAMES:
            self.note("L17", line)
        if word not in SPECIAL and not re.fullmatch("[A-Za-z][A-Za-z0-9_]*", word):
            self.note("L12", line)

    def function(self, node):
        if node.end_lineno - node.lineno + 1 > 40:
            self.note("L10", node.lineno)
        args = node.args
        if node.decorator_list or args.vararg or args.kwarg or args.kwonlyargs or args.posonlyargs:
            self.note("L4", node.lineno)
        self.plain(node.name, node.lineno)
        for arg in args.args:
            self.plain(arg.arg, node.lineno)
            if hasattr(builtins, arg.arg) or arg.arg in self.bound:
                self.note("L15", node.lineno)
            if arg.annotation:
                self.note("L21", node.lineno)
        for inner in ast.walk(node):
            if isinstance(inner, ast.Name) and isinstance(inner.ctx, ast.Store) and inner.id in self.bound:
                self.note("L15", inner.lineno)

    def a_class(self, node):
        if node not in self.tree.body:
            self.note("L15", node.lineno)
        if len(node.bases) > 1 or node.keywords or node.decorator_list:
            self.note("L5", node.lineno)
        for inner in node.body:
            if not isinstance(inner, (ast.FunctionDef, ast.Pass)):
                self.note("L5", inner.lineno)
        methods = [inner.name for inner in node.body if isinstance(inner, ast.FunctionDef)]
        if len(methods) != len(set(methods)):
            self.note("L18", node.lineno)

    def comparison(self, node):
        sides = [node.left] + node.comparators
        for place, op in enumerate(node.ops):
            if isinstance(op, (ast.Is, ast.IsNot)):
                pair = sides[place:place + 2]
                if not any(isinstance(s, ast.Constant) and s.value in (None, True, False) for s in pair):
                    self.note("L20", node.lineno)

    def handler(self, node):
        kinds = node.type.elts if isinstance(node.type, ast.Tuple) else [node.type]
        for kind in kinds:
            if not isinstance(kind, ast.Name) or kind.id in ("Exception", "TypeError"):
                self.note("L19", node.lineno)


def methods_and_values(tree):
    methods = set()
    values = set()
    for node in ast.walk(tree):
        if isinstance(node, ast.ClassDef):
            methods |= {inner.name for inner in node.body if isinstance(inner, ast.FunctionDef)}
        if isinstance(node, ast.Attribute) and isinstance(node.ctx, ast.Store):
            values.add(node.attr)
    return methods - SPECIAL, values


class Language(unittest.TestCase):
    def test_the_folder_holds_plain_files_alone(self):
        self.assertIn("__init__.py", files())
        for name in files():
            self.assertTrue(name == "__init__.py" or re.fullmatch("[a-z][a-z0-9_]*[.]py", name), name)
            self.assertFalse(name != "__init__.py" and hasattr(builtins, name[:-3]), name)

    def test_no_file_has_a_fault(self):
        for name in files():
            self.assertEqual(Faults(source(name)).found, [], name)

    def test_methods_are_pythons_listed_ones_or_own(self):
        methods = set()
        values = set()
        for name in files():
            own = methods_and_values(ast.parse(source(name)))
            methods |= own[0]
            values |= own[1]
        self.assertEqual(methods & values, set())
        self.assertEqual((methods | values) & (OF_PYTHONS_VALUES - METHODS - {"add", "discard"}), set())
        for name in files():
            for node in ast.walk(ast.parse(source(name))):
                if isinstance(node, ast.Attribute):
                    self.assertIn(node.attr, methods | values | METHODS | SPECIAL, (name, node.lineno))

    def test_no_two_files_draw_from_one_another(self):
        drawn = {}
        for name in files():
            rows = [node for node in ast.parse(source(name)).body if isinstance(node, ast.ImportFrom)]
            drawn["madeagain." + name[:-3]] = [node.module for node in rows]
        done = set()
        while len(done) < len(drawn):
            ready = [name for name in drawn if name not in done and set(drawn[name]) <= done]
            self.assertTrue(ready, drawn)
            done |= set(ready)

    def test_faults_are_seen(self):
        wrong = {
            "import os\n": "L3", "from os import path\n": "L2", "def f(*a):\n    pass\n": "L4", "x = 1.5\n": "L7",
            "def f():\n    with g():\n        pass\n": "L6", "def f():\n    a = b = 1\n": "L6",
            "def f(x):\n    return x is x\n": "L20", "def f(x):\n    return {k for k in x}\n": "L7",
            "def f(x):\n    return (k for k in x)\n": "L7", "def f(x):\n    return x / 2\n": "L7",
            "x = 1\nx = 2\n": "L15", "def f(max):\n    pass\n": "L15", "def f():\n    print(1)\n": "L8",
            "_x = 1\n": "L12", "# a type\n": "L17", "class A:\n    x = 1\n": "L5", "# " + "x" * 120 + "\n": "L10",
            "def f():\n    del x\n": "L6", "def f():\n    try:\n        g()\n    except Exception:\n        pass\n": "L19",
            "def f(x):\n    y = zip(x, x)\n": "L23", "def f(x):\n    return x.items()\n": "L23",
            "def f(x):\n    y = set(x)\n": "L24", "def f(x):\n    return {1, x}\n": "L24", "def f(n):\n    return 2 ** n\n": "L27",
            "def f(x):\n    for y in set(x):\n        pass\n": "L24", "def f(x):\n    y = len\n": "L22",
            "def f(x):\n    return x.split(' ', maxsplit=2)\n": "L22", "def f(x):\n    return isinstance(x, x.y)\n": "L22",
            "def f():\n" + "    pass\n" * 40: "L10", "x = '\u00e4'\n": "L14", "\tx = 1\n".strip() + "\t# a\n": "L14",
        }
        for text, rule in wrong.items():
            self.assertIn(rule, [fault[0] for fault in Faults(text).found], text)


if __name__ == "__main__":
    unittest.main()
