"""The form that the package's files keep to, rule by rule, as far as a walk over the code can see it."""

import ast
import builtins
import pathlib
import re
import unittest

PACKAGE = pathlib.Path(__file__).resolve().parent.parent / "crossbrace"

OWN_NAMES = """len range enumerate zip min max sum abs sorted reversed int str bool list tuple dict set frozenset
    isinstance ord repr any all divmod Exception ValueError TypeError KeyError IndexError LookupError
    ZeroDivisionError ArithmeticError OverflowError RuntimeError NotImplementedError AttributeError
    StopIteration""".split()
METHODS = """append clear copy count endswith extend find get index insert isalnum isalpha isdigit islower isspace
    isupper items join keys ljust lower lstrip partition pop remove replace reverse rfind rjust rpartition rsplit
    rstrip setdefault split splitlines startswith strip update upper values zfill bit_length""".split()
DUNDER_METHODS = "__init__ __eq__ __repr__ __str__ __len__".split()
UNUSED_NAMES = """register mro elements open input version_info with_traceback add_note attrgetter breakpoint builtins
    compile copyright credits delattr dir eval exec exit gc getattr globals hasattr help id importlib license locals
    methodcaller os quit setattr super type vars sys __name__ chr print""".split()
UNUSED_WORDS = """type typing typing_extensions enum Enum IntEnum StrEnum Flag IntFlag Generic Protocol ABC ABCMeta
    namedtuple NamedTuple TypedDict TYPE_CHECKING abstractmethod""".split()
FILE_NAMES_OUT = "test tests testing site conftest sitecustomize usercustomize".split() + UNUSED_WORDS + dir(builtins)
WALKED = "zip enumerate reversed range".split()
WALKED_METHODS = "items keys values".split()
CHANGING = "append clear extend insert pop remove reverse setdefault update".split()
WALKERS = "list tuple dict sorted sum any all enumerate zip min max join".split()
KEYWORDS = {"sorted": ["key", "reverse"], "min": ["key", "default"], "max": ["key", "default"],
            "sum": ["start"], "enumerate": ["start"], "zip": ["strict"]}

# Names that Python's own values have, and those of them that a class may bear all the same.
VALUE_NAMES = [name for kind in (str, int, list, dict, set, frozenset, tuple, bytes) for name in dir(kind)]
OWN_METHODS = METHODS + ["add", "discard"]
OWN_VALUES = "count index title find get join lower upper split strip copy add".split()
NO_VALUES = """items keys values pop update append clear extend insert remove reverse setdefault sort args encode
    format""".split()

STATEMENTS = (ast.Assign, ast.AugAssign, ast.AnnAssign, ast.If, ast.While, ast.For, ast.Return, ast.Break, ast.Continue,
              ast.Pass, ast.Raise, ast.Try, ast.Expr, ast.FunctionDef, ast.ClassDef, ast.ImportFrom)
EXPRESSIONS = (ast.Constant, ast.List, ast.Tuple, ast.Dict, ast.Set, ast.BinOp, ast.UnaryOp, ast.BoolOp, ast.Compare,
               ast.IfExp, ast.Call, ast.Attribute, ast.Subscript, ast.Slice, ast.ListComp, ast.JoinedStr,
               ast.FormattedValue, ast.Name, ast.Lambda)


def is_call_of(node, names):
    return isinstance(node, ast.Call) and isinstance(node.func, ast.Name) and node.func.id in names


def is_text(node):
    return isinstance(node, ast.Constant) and isinstance(node.value, str)


def is_plain(node, within=False):
    if isinstance(node, ast.UnaryOp) and isinstance(node.op, ast.USub):
        return is_plain(node.operand)
    if isinstance(node, ast.Tuple):
        return all(is_plain(part, True) for part in node.elts)
    if isinstance(node, ast.List):
        return not within and all(is_plain(part, True) for part in node.elts)
    if isinstance(node, ast.Dict):
        return not within and all(key is not None and is_plain(key, True) for key in node.keys) \
            and all(is_plain(part, True) for part in node.values)
    return isinstance(node, (ast.Constant, ast.Name))


class Walk:
    """One file, looked at node by node; what is out of form is kept as (rule, line)."""

    def __init__(self, source):
        self.source = source
        self.tree = ast.parse(source)
        self.found = []
        self.above = {}
        for node in ast.walk(self.tree):
            for child in ast.iter_child_nodes(node):
                self.above[child] = node
        self.methods = [part.name for node in self.tree.body if isinstance(node, ast.ClassDef)
                        for part in node.body if isinstance(part, ast.FunctionDef)]
        self.taken = [alias.name for node in self.tree.body if isinstance(node, ast.ImportFrom) for alias in node.names]
        self.taken += [node.name for node in self.tree.body if isinstance(node, ast.ClassDef)]

    def fault(self, rule, node):
        self.found.append((rule, getattr(node, "lineno", 0)))

    def check(self):
        self.check_text()
        self.check_top()
        for node in ast.walk(self.tree):
            self.check_kind(node)
            for kind, look in LOOKS:
                if isinstance(node, kind):
                    look(self, node)
        return self.found

    def check_text(self):
        rows = self.source.split("\n")
        if len(rows) > 401:
            self.found.append(("L10", 401))
        for number, row in enumerate(rows, start=1):
            if len(row) > 120 or "\t" in row:
                self.found.append(("L10", number))
            if any(not " " <= sign <= "~" for sign in row.replace("\t", " ")):
                self.found.append(("L14", number))
            words = re.findall(r"\w+", row)
            if set(words) & set(UNUSED_WORDS) or re.search("dataclass|overload|contextmanager", row):
                self.found.append(("L17", number))

    def check_top(self):
        bound = []
        for place, node in enumerate(self.tree.body):
            if isinstance(node, (ast.FunctionDef, ast.ClassDef)):
                bound.append(node.name)
            elif isinstance(node, ast.ImportFrom):
                bound.extend(alias.asname or alias.name for alias in node.names)
            elif isinstance(node, ast.Assign) and isinstance(node.targets[0], ast.Name):
                bound.append(node.targets[0].id)
                if not is_plain(node.value):
                    self.fault("L3", node)
            elif not (place == 0 and isinstance(node, ast.Expr) and is_text(node.value)):
                self.fault("L3", node)
        if len(bound) != len(set(bound)):
            self.found.append(("L15", 0))

    def check_kind(self, node):
        if isinstance(node, ast.stmt) and not isinstance(node, STATEMENTS):
            self.fault("L6", node)
        if isinstance(node, ast.expr) and not isinstance(node, EXPRESSIONS):
            self.fault("L7", node)

    def check_name(self, name, node):
        if not re.fullmatch("[A-Za-z][A-Za-z0-9_]*", name):
            self.fault("L12", node)
        if name in dir(builtins):
            self.fault("L15", node)
        if name in UNUSED_NAMES:
            self.fault("L17", node)

    def look_import(self, node):
        if not isinstance(self.above[node], ast.Module):
            self.fault("L2", node)
        if node.level or not (node.module or "").startswith("crossbrace.") or any(a.name == "*" for a in node.names):
            self.fault("L2", node)

    def look_def(self, node):
        given = node.args
        if given.vararg or given.kwarg or given.kwonlyargs or given.posonlyargs or node.decorator_list:
            self.fault("L4", node)
        if not all(is_plain(default) for default in given.defaults):
            self.fault("L4", node)
        if node.end_lineno - node.lineno + 1 > 40:
            self.fault("L10", node)
        is_method = isinstance(self.above[node], ast.ClassDef)
        if is_method:
            self.look_method(node)
        else:
            self.check_name(node.name, node)

    def look_method(self, node):
        if self.methods.count(node.name) > 1 or node.name in self.values():
            self.fault("L18", node)
        if node.name == "__init__":
            if any(isinstance(part, ast.Return) and part.value is not None for part in ast.walk(node)):
                self.fault("L28", node)
        elif node.name in DUNDER_METHODS:
            self.fault("L28", node)
        elif node.name in VALUE_NAMES and node.name not in OWN_METHODS:
            self.fault("L26", node)
        elif not re.fullmatch("[A-Za-z][A-Za-z0-9_]*", node.name):
            self.fault("L12", node)

    def values(self):
        return [node.attr for node in ast.walk(self.tree)
                if isinstance(node, ast.Attribute) and isinstance(node.ctx, ast.Store)]

    def look_class(self, node):
        plain = all(isinstance(part, (ast.FunctionDef, ast.Pass)) for part in node.body)
        if len(node.bases) > 1 or node.keywords or node.decorator_list or not plain:
            self.fault("L5", node)
        if not isinstance(self.above[node], ast.Module):
            self.fault("L15", node)
        self.check_name(node.name, node)

    def look_arg(self, node):
        self.check_name(node.arg, node)
        if node.arg in self.taken:
            self.fault("L15", node)

    def look_name(self, node):
        if isinstance(node.ctx, ast.Store):
            self.check_name(node.id, node)
            if node.id in self.taken:
                self.fault("L15", node)
        elif node.id in UNUSED_NAMES:
            self.fault("L17", node)
        elif node.id in dir(builtins) and node.id not in OWN_NAMES:
            self.fault("L8", node)

    def look_loop(self, node):
        if node.orelse:
            self.fault("L6", node)

    def look_for(self, node):
        walked = node.iter
        while isinstance(walked, ast.Call) and (walked.args or isinstance(walked.func, ast.Attribute)):
            if getattr(walked.func, "id", "") in ("list", "sorted", "range", "len"):
                return
            walked = walked.func.value if isinstance(walked.func, ast.Attribute) else walked.args[0]
        text = ast.unparse(walked)
        for part in ast.walk(ast.Module(node.body, [])):
            changed = isinstance(part, ast.Attribute) and part.attr in CHANGING \
                or isinstance(part, ast.Subscript) and isinstance(part.ctx, ast.Store)
            if changed and ast.unparse(part.value) == text:
                self.fault("L23", part)

    def look_assign(self, node):
        if len(node.targets) != 1:
            self.fault("L6", node)

    def look_single(self, node):
        above = self.above[node]
        is_doc = is_text(node.value) and above.body[0] is node
        if not is_doc and not isinstance(node.value, ast.Call):
            self.fault("L6", node)

    def look_try(self, node):
        if node.finalbody:
            self.fault("L6", node)
        for handler in node.handlers:
            named = handler.type.elts if isinstance(handler.type, ast.Tuple) else [handler.type]
            if any(one is None or getattr(one, "id", "") in ("Exception", "TypeError") for one in named):
                self.fault("L19", handler)

    def look_raise(self, node):
        if not isinstance(node.exc, ast.Call):
            self.fault("L19", node)

    def look_constant(self, node):
        if node.value is not None and not isinstance(node.value, (bool, int, str)):
            self.fault("L7", node)
        if is_text(node) and "%" in node.value:
            self.fault("L27", node)

    def look_sum(self, node):
        if isinstance(node.op, (ast.Div, ast.MatMult)):
            self.fault("L7", node)
        if isinstance(node.op, ast.Pow):
            power = getattr(node, "right", None)
            if not isinstance(power, ast.Constant) or not 0 <= power.value <= 64:
                self.fault("L27", node)

    def look_comprehension(self, node):
        if len(node.generators) != 1 or len(node.generators[0].ifs) > 1:
            self.fault("L7", node)

    def look_shown(self, node):
        if not isinstance(node.value, ast.Name) or node.format_spec or node.conversion not in (-1, ord("r")):
            self.fault("L7", node)

    def look_compare(self, node):
        for operator, other in zip(node.ops, node.comparators):
            single = isinstance(other, ast.Constant) and (other.value is None or isinstance(other.value, bool))
            if isinstance(operator, (ast.Is, ast.IsNot)) and not single:
                self.fault("L20", node)

    def look_call(self, node):
        name = getattr(node.func, "id", "")
        if any(part.arg is None for part in node.keywords) or any(isinstance(a, ast.Starred) for a in node.args):
            self.fault("L7", node)
        if name in OWN_NAMES and any(part.arg not in KEYWORDS.get(name, []) for part in node.keywords):
            self.fault("L22", node)
        method = getattr(node.func, "attr", "")
        if method in METHODS and node.keywords:
            self.fault("L22", node)
        if (name in WALKED or method in WALKED_METHODS) and not self.is_walked(node):
            self.fault("L23", node)
        if name in ("set", "frozenset") and not self.is_used_up(node):
            self.fault("L24", node)

    def is_walked(self, node):
        above = self.above[node]
        if isinstance(above, (ast.For, ast.comprehension)):
            return above.iter is node
        return is_call_of(above, WALKERS) or getattr(getattr(above, "func", None), "attr", "") == "join"

    def is_used_up(self, node):
        above = self.above[node]
        while isinstance(above, ast.BinOp) and isinstance(above.op, (ast.Sub, ast.BitAnd, ast.BitOr, ast.BitXor)):
            above = self.above[above]
        return isinstance(above, ast.Compare) or is_call_of(above, ["sorted", "len"])

    def look_set(self, node):
        if not self.is_used_up(node):
            self.fault("L24", node)

    def look_attribute(self, node):
        if isinstance(node.ctx, ast.Store):
            if node.attr in NO_VALUES or node.attr in VALUE_NAMES and node.attr not in OWN_VALUES:
                self.fault("L26", node)
            if getattr(node.value, "id", "") in self.taken:
                self.fault("L18", node)
        if node.attr in UNUSED_NAMES:
            self.fault("L17", node)
        if node.attr.startswith("_") and node.attr not in DUNDER_METHODS:
            self.fault("L12", node)
        above = self.above[node]
        called = isinstance(above, ast.Call) and above.func is node
        if called and node.attr not in METHODS + self.methods + DUNDER_METHODS:
            self.fault("L25", node)
        if not called and node.attr in METHODS and isinstance(node.ctx, ast.Load) and not isinstance(above, ast.keyword):
            self.fault("L25", node)


LOOKS = [
    (ast.ImportFrom, Walk.look_import), (ast.FunctionDef, Walk.look_def), (ast.ClassDef, Walk.look_class),
    (ast.arg, Walk.look_arg), (ast.Name, Walk.look_name), ((ast.For, ast.While), Walk.look_loop),
    (ast.For, Walk.look_for),
    (ast.Assign, Walk.look_assign), (ast.Expr, Walk.look_single), (ast.Try, Walk.look_try),
    (ast.Raise, Walk.look_raise), (ast.Constant, Walk.look_constant), ((ast.BinOp, ast.AugAssign), Walk.look_sum),
    (ast.ListComp, Walk.look_comprehension), (ast.FormattedValue, Walk.look_shown),
    (ast.Compare, Walk.look_compare), (ast.Call, Walk.look_call), (ast.Set, Walk.look_set),
    (ast.Attribute, Walk.look_attribute)]

# Each of these is out of form by the rule named.
FAULTY = [
    ("L2", "from math import gcd\n"), ("L2", "from .floors import corners\n"), ("L2", "from crossbrace.floors import *\n"),
    ("L2", "def f():\n    from crossbrace.floors import corners\n    return corners\n"),
    ("L3", "print(1)\n"), ("L3", "N = len([1])\n"), ("L3", "N = [[1], [2]]\n"),
    ("L4", "def f(*a):\n    return a\n"), ("L4", "def f(*, a):\n    return a\n"), ("L4", "def f(a=len([])):\n    return a\n"),
    ("L5", "class A:\n    n = 1\n"), ("L5", "class A(ValueError, KeyError):\n    pass\n"),
    ("L6", "import math\n"), ("L6", "def f(a):\n    assert a\n"), ("L6", "def f():\n    a = b = 1\n    return a + b\n"),
    ("L6", "def f(a):\n    for x in a:\n        pass\n    else:\n        pass\n"), ("L6", "def f(a):\n    a\n"),
    ("L7", "N = 1.0\n"), ("L7", "def f(a):\n    return a / 2\n"), ("L7", "def f(a):\n    return sum(x for x in a)\n"),
    ("L7", "def f(a):\n    return {x: 1 for x in a}\n"), ("L7", "def f(a):\n    return [x for y in a for x in y]\n"),
    ("L7", "def f(a):\n    return max(*a)\n"), ("L7", "def f(a):\n    return f'{a:3}'\n"),
    ("L7", "def f(a):\n    yield a\n"), ("L8", "def f(a):\n    return hash(a)\n"),
    ("L8", "def f(a):\n    return filter(None, a)\n"),
    ("L10", "N = 1\n\n\ndef f():\n" + "    pass\n" * 41), ("L10", "N = '" + "a" * 120 + "'\n"), ("L10", "N = 1\n" * 401),
    ("L12", "def f(a):\n    return [0 for _ in a]\n"), ("L12", "def _f():\n    return 1\n"),
    ("L14", "N = '\u00e9'\n"), ("L15", "N = 1\nN = 2\n"), ("L15", "def f(min):\n    return min\n"),
    ("L15", "from crossbrace.floors import sides\n\n\ndef f(sides):\n    return sides\n"),
    ("L15", "from crossbrace.floors import sides\n\n\ndef f(a):\n    return [0 for sides in a]\n"),
    ("L15", "class Desk:\n    pass\n\n\ndef f(a):\n    Desk = a\n    return a\n"),
    ("L17", "# the type of a thing\n"), ("L17", "def f(a):\n    return getattr(a, 'b')\n"),
    ("L18", "class A:\n    def f(self):\n        return 1\n\n    def f(self):\n        return 2\n"),
    ("L18", "class A:\n    def f(self):\n        self.f = 1\n"),
    ("L18", "class A:\n    pass\n\n\ndef f():\n    A.n = 1\n"),
    ("L19", "def f(a):\n    try:\n        return a[0]\n    except Exception:\n        return 0\n"),
    ("L19", "def f(a):\n    raise a\n"), ("L20", "def f(a):\n    return a is 1\n"),
    ("L22", "def f(a):\n    return int(a, base=2)\n"), ("L23", "def f(a):\n    b = zip(a, a)\n    return list(b)\n"),
    ("L23", "def f(a):\n    for x in a:\n        a.append(x)\n"),
    ("L23", "def f(a):\n    for k, x in enumerate(a):\n        a[k] = x\n"),
    ("L23", "def f(a):\n    for k, x in a.items():\n        if x:\n            a.pop(k)\n"),
    ("L23", "def f(a):\n    return a.items()\n"), ("L24", "def f(a):\n    return set(a)\n"),
    ("L24", "def f(a):\n    return [x for x in set(a)]\n"), ("L25", "def f(a):\n    a.sort()\n"),
    ("L25", "def f(a):\n    return a.append\n"), ("L27", "def f(n):\n    return 2 ** n\n"), ("L27", "N = '%'\n"),
]


class Form(unittest.TestCase):
    def files(self):
        return [path for path in sorted(PACKAGE.rglob("*")) if "__pycache__" not in path.parts]

    def test_the_package_holds_plain_files_alone(self):
        names = [path.name for path in self.files()]
        self.assertIn("__init__.py", names)
        for path in self.files():
            with self.subTest(path=path):
                self.assertTrue(path.is_file())
                self.assertEqual(path.suffix, ".py")
                if path.stem not in ("__init__", "__main__"):
                    self.assertRegex(path.stem, "^[a-z][a-z0-9_]*$")
                    self.assertNotIn(path.stem, FILE_NAMES_OUT)
                    self.assertFalse(path.stem.startswith("test_"))

    def test_each_file_keeps_to_the_form(self):
        for path in self.files():
            with self.subTest(path=path.name):
                source = path.read_bytes().decode("utf-8")
                self.assertNotIn("\r", source)
                self.assertEqual(Walk(source).check(), [])

    def test_names_are_drawn_from_the_file_that_defines_them_and_never_in_a_ring(self):
        drawn = {}
        defined = {}
        for path in self.files():
            tree = ast.parse(path.read_text(encoding="utf-8"))
            drawn[path.stem] = [(node.module.split(".")[-1], alias.name) for node in tree.body
                                if isinstance(node, ast.ImportFrom) for alias in node.names]
            defined[path.stem] = [node.name for node in tree.body if isinstance(node, (ast.FunctionDef, ast.ClassDef))]
            defined[path.stem] += [node.targets[0].id for node in tree.body if isinstance(node, ast.Assign)]
        for stem, pairs in drawn.items():
            for module, name in pairs:
                with self.subTest(stem=stem, module=module, name=name):
                    self.assertIn(name, defined[module])
        self.assertEqual([name for name in defined["__init__"] if name in defined], [])
        left = {stem: {module for module, name in pairs} for stem, pairs in drawn.items()}
        while left:
            free = [stem for stem in left if not left[stem] & set(left)]
            self.assertTrue(free, left)
            left = {stem: left[stem] for stem in left if stem not in free}

    def test_the_walk_sees_what_is_out_of_form(self):
        for rule, source in FAULTY:
            with self.subTest(rule=rule, source=source):
                self.assertIn(rule, [found for found, line in Walk(source).check()])


if __name__ == "__main__":
    unittest.main()
