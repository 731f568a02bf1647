"""The rules of LANGUAGE.md that a look at the written code can see; the others are for the reader."""

import ast
import builtins
import os
import re
import unittest

TOP = os.path.dirname(os.path.dirname(os.path.abspath(__file__)))
PACKAGE = os.path.join(TOP, "argosy")

NODES = tuple(getattr(ast, name) for name in (
    "Module Expr Assign AnnAssign AugAssign For While If Return Break Continue Pass Raise Try ExceptHandler Assert "
    "Delete FunctionDef ClassDef Lambda ImportFrom alias arguments arg keyword Starred Constant Name Attribute Subscript "
    "Slice List Tuple Dict Set ListComp DictComp SetComp comprehension BinOp UnaryOp BoolOp Compare IfExp Call JoinedStr "
    "FormattedValue Load Store Del Add Sub Mult FloorDiv Mod Pow LShift RShift BitAnd BitOr BitXor Invert Not UAdd USub "
    "And Or Eq NotEq Lt LtE Gt GtE Is IsNot In NotIn"
).split())
BUILT_IN = (
    "len range enumerate zip min max sum abs sorted reversed int str bool bytes list tuple dict set frozenset isinstance "
    "ord repr any all divmod Exception ValueError TypeError KeyError IndexError LookupError ZeroDivisionError "
    "ArithmeticError OverflowError RuntimeError NotImplementedError AttributeError StopIteration"
).split()
METHODS = (
    "append clear copy count endswith extend find get index insert isalnum isalpha isdigit islower isspace isupper items "
    "join keys ljust lower lstrip partition pop remove replace reverse rfind rjust rpartition rsplit rstrip setdefault "
    "split splitlines startswith strip update upper values zfill bit_length title capitalize swapcase casefold center "
    "expandtabs removeprefix removesuffix rindex isascii isdecimal isnumeric istitle isidentifier isprintable translate "
    "maketrans sort add discard encode decode hex fromhex to_bytes from_bytes"
).split()
DUNDERS = "__init__ __eq__ __repr__ __str__ __len__".split()
WORDS = (
    "type typing typing_extensions enum Enum IntEnum StrEnum Flag IntFlag Generic Protocol ABC ABCMeta namedtuple "
    "NamedTuple TypedDict TYPE_CHECKING abstractmethod"
).split()
PARTS_OF_WORDS = "dataclass overload contextmanager".split()
UNUSED = (
    "register mro elements open input version_info with_traceback add_note attrgetter breakpoint builtins compile "
    "copyright credits delattr dir eval exec exit gc getattr globals hasattr help id importlib license locals "
    "methodcaller os quit setattr super vars sys format format_map"
).split()


def faults_of_rows(source):
    faults = []
    rows = source.split("\n")
    if len(rows) > 401:
        faults.append(("L10", 401))
    for at, row in enumerate(rows, 1):
        if len(row) > 120:
            faults.append(("L10", at))
        if any(not " " <= sign <= "~" for sign in row):
            faults.append(("L14", at))
        words = re.findall(r"\w+", row)
        if any(word in WORDS or any(part in word for part in PARTS_OF_WORDS) for word in words):
            faults.append(("L17", at))
    return faults


def bound_names(node):
    """The names that a node gives or calls something by."""
    if isinstance(node, (ast.FunctionDef, ast.ClassDef)):
        return [node.name]
    if isinstance(node, ast.arg):
        return [node.arg]
    if isinstance(node, ast.ExceptHandler):
        return [node.name] if node.name else []
    if isinstance(node, ast.alias):
        return [node.asname or node.name]
    if isinstance(node, ast.Name) and not isinstance(node.ctx, ast.Load):
        return [node.id]
    if isinstance(node, ast.Attribute):
        return [node.attr]
    return []


def faults_of_names(node, methods):
    faults = []
    for name in bound_names(node):
        if name in UNUSED:
            faults.append("L17")
        if not re.fullmatch(r"[A-Za-z][A-Za-z0-9_]*", name) and name not in DUNDERS:
            faults.append("L12")
        if hasattr(builtins, name) and not isinstance(node, ast.Attribute) and node not in methods:
            faults.append("L15")
    if isinstance(node, ast.Name) and hasattr(builtins, node.id) and node.id not in BUILT_IN:
        faults.append("L8")
    return faults


def faults_of_def(node):
    asked = node.args
    faults = []
    if asked.posonlyargs or asked.vararg or asked.kwarg:
        faults.append("L4")
    if isinstance(node, ast.FunctionDef):
        if node.decorator_list:
            faults.append("L4")
        if node.end_lineno - node.lineno >= 40:
            faults.append("L10")
    return faults


def faults_of_class(node):
    docstring = ast.get_docstring(node) is not None
    body = node.body[1:] if docstring else node.body
    plain = all(isinstance(row, (ast.FunctionDef, ast.Pass)) for row in body)
    if node.decorator_list or node.keywords or len(node.bases) > 1 or not plain:
        return ["L5"]
    return []


def faults_of_value(node):
    if isinstance(node, ast.Constant):
        if isinstance(node.value, (float, complex)) or node.value is ...:
            return ["L7"]
        if isinstance(node.value, str) and "%" in node.value:
            return ["L27"]
    if isinstance(node, ast.BinOp) and isinstance(node.op, ast.Pow):
        written = isinstance(node.right, ast.Constant) and node.right.value in range(65)
        return [] if written else ["L27"]
    if isinstance(node, ast.Compare):
        for sign, side in zip(node.ops, node.comparators):
            known = isinstance(side, ast.Constant) and (side.value is None or isinstance(side.value, bool))
            if isinstance(sign, (ast.Is, ast.IsNot)) and not known:
                return ["L20"]
    if isinstance(node, ast.FormattedValue) and node.format_spec is not None:
        return ["L7"]
    return []


def faults_of_statement(node, own_methods):
    if isinstance(node, ast.ImportFrom):
        own = node.module == "__future__" or (node.module or "").startswith("argosy.")
        if node.level or not own or any(name.name == "*" for name in node.names):
            return ["L2"]
    if isinstance(node, (ast.For, ast.While)) and node.orelse:
        return ["L6"]
    if isinstance(node, ast.ExceptHandler):
        if node.type is None or ast.unparse(node.type) in ("Exception", "TypeError", "()"):
            return ["L19"]
    if isinstance(node, ast.Call) and isinstance(node.func, ast.Attribute):
        if node.func.attr not in METHODS + DUNDERS + own_methods:
            return ["L25"]
    return []


def faults_of_top(tree):
    faults = []
    kinds = (ast.ImportFrom, ast.FunctionDef, ast.ClassDef, ast.Assign, ast.AnnAssign)
    for at, row in enumerate(tree.body):
        docstring = at == 0 and ast.get_docstring(tree) is not None
        if not docstring and not isinstance(row, kinds):
            faults.append(("L3", row.lineno))
    for row in tree.body:
        for node in ast.walk(row):
            if isinstance(node, (ast.ImportFrom, ast.ClassDef)) and node is not row:
                faults.append(("L2" if isinstance(node, ast.ImportFrom) else "L15", node.lineno))
    return faults


def methods_in(tree):
    return [
        row for node in ast.walk(tree) if isinstance(node, ast.ClassDef)
        for row in node.body if isinstance(row, ast.FunctionDef)
    ]


def values_in(tree):
    return [node.attr for node in ast.walk(tree) if isinstance(node, ast.Attribute) and isinstance(node.ctx, ast.Store)]


def faults_of(source, own_methods=()):
    """The list of pairs (rule, line) of what is seen to be outside the rules."""
    faults = faults_of_rows(source)
    tree = ast.parse(source)
    faults.extend(faults_of_top(tree))
    methods = methods_in(tree)
    own = list(own_methods) + [method.name for method in methods] + values_in(tree)
    for node in ast.walk(tree):
        rules = faults_of_names(node, methods) + faults_of_value(node) + faults_of_statement(node, own)
        if not isinstance(node, NODES):
            rules.append("L6 or L7")
        if isinstance(node, (ast.FunctionDef, ast.Lambda)):
            rules.extend(faults_of_def(node))
        if isinstance(node, ast.ClassDef):
            rules.extend(faults_of_class(node))
        faults.extend((rule, getattr(node, "lineno", 0)) for rule in rules)
    return faults


def package_files():
    return sorted(name for name in os.listdir(PACKAGE) if name != "__pycache__")


def source_of(name):
    with open(os.path.join(PACKAGE, name), encoding="utf-8", newline="") as file:
        return file.read()


def drawn_from(name):
    """The names of the package's files that a file imports from, with the names drawn."""
    rows = [node for node in ast.walk(ast.parse(source_of(name))) if isinstance(node, ast.ImportFrom)]
    return [
        (row.module[len("argosy."):] + ".py", [drawn.name for drawn in row.names])
        for row in rows if row.module != "__future__"
    ]


def defined_in(name):
    told = []
    for row in ast.parse(source_of(name)).body:
        if isinstance(row, (ast.FunctionDef, ast.ClassDef)):
            told.append(row.name)
        if isinstance(row, (ast.Assign, ast.AnnAssign)):
            targets = row.targets if isinstance(row, ast.Assign) else [row.target]
            told.extend(node.id for target in targets for node in ast.walk(target) if isinstance(node, ast.Name))
    return told


class ThePackage(unittest.TestCase):
    def test_its_files(self):
        self.assertIn("__init__.py", package_files())
        for name in package_files():
            with self.subTest(name):
                self.assertRegex(name, r"\A(__init__|__main__|[a-z][a-z0-9_]*)\.py\Z")
                self.assertNotRegex(name, r"\A(law_|test|site|conftest|sitecustomize|usercustomize)")
                self.assertNotIn(name[:-3], [own for own in dir(builtins) if not own.startswith("__")])

    def test_its_code(self):
        trees = [ast.parse(source_of(name)) for name in package_files()]
        own = [method.name for tree in trees for method in methods_in(tree)]
        own.extend(value for tree in trees for value in values_in(tree))
        for name in package_files():
            with self.subTest(name):
                self.assertEqual(faults_of(source_of(name), own), [])

    def test_no_name_is_a_method_and_a_value(self):
        trees = [ast.parse(source_of(name)) for name in package_files()]
        methods = {method.name for tree in trees for method in methods_in(tree)}
        values = {value for tree in trees for value in values_in(tree)}
        asked = {node.attr for tree in trees for node in ast.walk(tree) if isinstance(node, ast.Attribute)}
        called = {
            node.func.attr for tree in trees for node in ast.walk(tree)
            if isinstance(node, ast.Call) and isinstance(node.func, ast.Attribute)
        }
        self.assertEqual(methods & values, set())
        self.assertEqual(asked - called - values, set())

    def test_names_are_drawn_from_the_file_that_defines_them(self):
        for name in package_files():
            for source, drawn in drawn_from(name):
                with self.subTest(name, source=source):
                    self.assertEqual([one for one in drawn if one not in defined_in(source)], [])

    def test_no_two_files_draw_from_one_another(self):
        left = {name: [source for source, _ in drawn_from(name)] for name in package_files()}
        while left:
            free = [name for name in left if not any(source in left for source in left[name])]
            self.assertNotEqual(free, [], f"these draw from one another: {sorted(left)}")
            for name in free:
                del left[name]


class TheLook(unittest.TestCase):
    """What is ruled out is seen, so that a clean answer above means something."""

    def test_ruled_out(self):
        long_def = "def f():\n" + "    pass\n" * 40
        for rule, source in (
            ("L2", "from argosy.timbers import *\n"),
            ("L2", "from math import gcd\n"),
            ("L2", "from .timbers import rising\n"),
            ("L2", "def f():\n    from argosy.timbers import rising\n    return rising\n"),
            ("L3", "print\n"),
            ("L3", "for k in (1, 2):\n    pass\n"),
            ("L4", "def f(*rest):\n    return rest\n"),
            ("L4", "def f(**rest):\n    return rest\n"),
            ("L4", "def f(k, /):\n    return k\n"),
            ("L4", "@sorted\ndef f(k):\n    return k\n"),
            ("L5", "class Box:\n    many = 1\n"),
            ("L6", "def f(xs):\n    for x in xs:\n        pass\n    else:\n        return 1\n"),
            ("L6 or L7", "import math\n"),
            ("L6 or L7", "def f():\n    yield 1\n"),
            ("L6 or L7", "def f(k):\n    return k / 2\n"),
            ("L6 or L7", "def f(xs):\n    return sum(x for x in xs)\n"),
            ("L7", "HALF = 0.5\n"),
            ("L7", "def f(k):\n    return f'{k:3}'\n"),
            ("L8", "def f(xs):\n    return map(len, xs)\n"),
            ("L10", long_def),
            ("L10", "LONG = '" + "a" * 120 + "'\n"),
            ("L10", "K = 1\n" + "\n" * 400),
            ("L12", "def f(xs):\n    return [1 for _ in xs]\n"),
            ("L14", "K = 1\t\n"),
            ("L14", "# \u00e9\n"),
            ("L15", "def f(hash):\n    return hash\n"),
            ("L15", "def f():\n    class Box:\n        pass\n"),
            ("L17", "# of that type\n"),
            ("L17", "def register(k):\n    return k\n"),
            ("L19", "def f():\n    try:\n        pass\n    except Exception:\n        pass\n"),
            ("L20", "def f(a, b):\n    return a is b\n"),
            ("L25", "def f(xs):\n    return xs.union(xs)\n"),
            ("L27", "TEXT = '5 %'\n"),
            ("L27", "def f(k):\n    return 2 ** k\n"),
        ):
            with self.subTest(rule, source=source[:60]):
                self.assertIn(rule, [found for found, _ in faults_of(source)])

    def test_allowed(self):
        source = '''"""A file."""

from argosy.timbers import rising

LIMIT = 10 ** 6
WORDS = ("fell", "refit")


class Box:
    """A box."""

    def __init__(self, many):
        self.many = many
        self.rows = {}

    def find(self, key, *, at=0):
        if key is None or key not in self.rows:
            raise KeyError(key)
        return self.rows[key][at:][::-1]


def walked(xs):
    seen = set()
    for at, x in enumerate(rising(xs)):
        if x not in seen and at >= 0:
            seen.add(x)
    first, *rest = sorted(seen)
    told = [first] + [k * 2 for k in rest if k]
    told.sort(key=lambda k: -k)
    try:
        told.append({k: f"{k} of {len(xs)}" for k in told}[first])
    except KeyError:
        told.pop()
    return told if told else None
'''
        self.assertEqual(faults_of(source), [])


if __name__ == "__main__":
    unittest.main()
