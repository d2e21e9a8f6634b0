"""Looks over the package's files for those rules of the language that a reader of trees can see."""

import ast
import builtins
import pathlib
import re
import unittest

PACKAGE = pathlib.Path(__file__).resolve().parent.parent / "cascade"

OWN_NAMES = set(
    "len range enumerate zip min max sum abs sorted reversed int str bool list tuple dict set frozenset isinstance "
    "ord repr any all divmod Exception ValueError TypeError KeyError IndexError LookupError ZeroDivisionError "
    "ArithmeticError OverflowError RuntimeError NotImplementedError AttributeError StopIteration".split()
)
METHODS = set(
    "append clear copy count endswith extend find get index insert isalnum isalpha isdigit islower isspace isupper "
    "items join keys ljust lower lstrip partition pop remove replace reverse rfind rjust rpartition rsplit rstrip "
    "setdefault split splitlines startswith strip update upper values zfill bit_length".split()
)
SPECIAL = {"__init__", "__eq__", "__repr__", "__str__", "__len__"}
NODES = set(
    "Module FunctionDef ClassDef Return Assign AugAssign For While If Raise Try ExceptHandler ImportFrom alias Expr "
    "Pass Break Continue BoolOp And Or BinOp Add Sub Mult FloorDiv Mod Pow BitAnd BitOr BitXor LShift RShift UnaryOp "
    "Not USub UAdd Invert Lambda IfExp Dict List Tuple Set ListComp comprehension Compare Eq NotEq Lt LtE Gt GtE Is "
    "IsNot In NotIn Call keyword JoinedStr FormattedValue Constant Attribute Subscript Slice Name Load Store "
    "arguments arg".split()
)
BARRED_WORDS = re.compile(
    r"\b(type|typing|typing_extensions|enum|Enum|IntEnum|StrEnum|Flag|IntFlag|Generic|Protocol|ABC|ABCMeta|namedtuple"
    r"|NamedTuple|TypedDict|TYPE_CHECKING|abstractmethod)\b|dataclass|overload|contextmanager"
)
WALKED = {"zip", "enumerate", "reversed", "range", "items", "keys", "values"}
WALKERS = {"list", "tuple", "dict", "sorted", "sum", "any", "all", "enumerate", "zip", "min", "max", "join"}
KEYWORDS = {"sorted": {"key", "reverse"}, "min": {"key", "default"}, "max": {"key", "default"}, "sum": {"start"},
            "enumerate": {"start"}, "zip": {"strict"}}
BARRED_NAMES = {"register", "mro", "elements", "open", "input", "version_info", "with_traceback", "add_note", "format",
                "format_map"}

PYTHONS_OWN = {name for kind in (str, int, list, tuple, dict, set, frozenset, bytes, bool) for name in dir(kind)}
FREE_VALUES = set("count index title find get join lower upper split strip copy add".split())


def text_faults(source):
    faults = []
    if not all(sign == "\n" or " " <= sign <= "~" for sign in source):
        faults.append("L14 a sign")
    rows = source.split("\n")
    if len(rows) > 401 or any(len(row) > 120 for row in rows):
        faults.append("L10 size")
    if BARRED_WORDS.search(source):
        faults.append("L17 a word")
    return faults


def is_docstring(node):
    return isinstance(node, ast.Expr) and isinstance(node.value, ast.Constant) and isinstance(node.value.value, str)


def top_faults(tree):
    faults = []
    bound = []
    for place, node in enumerate(tree.body):
        if isinstance(node, ast.ImportFrom):
            bound += [name.name for name in node.names]
            if node.level or not node.module.startswith("cascade.") or any(name.asname for name in node.names):
                faults.append("L2 an import")
        elif isinstance(node, (ast.FunctionDef, ast.ClassDef)):
            bound.append(node.name)
        elif isinstance(node, ast.Assign) and isinstance(node.targets[0], ast.Name):
            bound.append(node.targets[0].id)
        elif place or not is_docstring(node):
            faults.append("L3 the top of a module")
    if len(bound) != len(set(bound)):
        faults.append("L15 a name bound twice")
    return faults


def names_of(tree):
    for node in ast.walk(tree):
        if isinstance(node, ast.Name):
            yield node.id, isinstance(node.ctx, ast.Store)
        elif isinstance(node, ast.arg):
            yield node.arg, True
        elif isinstance(node, (ast.FunctionDef, ast.ClassDef)):
            yield node.name, False
        elif isinstance(node, ast.Attribute):
            yield node.attr, False


def name_faults(tree):
    faults = []
    for name, stored in names_of(tree):
        if name in BARRED_NAMES:
            faults.append(f"L17 {name}")
        if not name.isascii() or name.startswith("_") and name not in SPECIAL:
            faults.append(f"L12 {name}")
        if stored and hasattr(builtins, name):
            faults.append(f"L15 {name}")
    for node in ast.walk(tree):
        if isinstance(node, ast.Name) and hasattr(builtins, node.id) and node.id not in OWN_NAMES:
            faults.append(f"L8 {node.id}")
    return faults


def function_faults(node):
    faults = []
    if node.end_lineno - node.lineno >= 40:
        faults.append("L10 a long function")
    plain = node.args
    if plain.vararg or plain.kwarg or plain.kwonlyargs or plain.posonlyargs or node.decorator_list:
        faults.append("L4 a function")
    return faults


def class_faults(node):
    body = [item for item in node.body if not isinstance(item, (ast.FunctionDef, ast.Pass)) and not is_docstring(item)]
    if body or len(node.bases) > 1 or node.keywords or node.decorator_list:
        return ["L5 a class"]
    return []


def is_plain(node):
    return isinstance(node, ast.Constant) and (node.value is None or isinstance(node.value, bool))


def node_faults(node):
    kind = type(node).__name__
    faults = [] if kind in NODES else [f"L6 L7 {kind}"]
    if isinstance(node, ast.FunctionDef):
        faults += function_faults(node)
    if isinstance(node, ast.ClassDef):
        faults += class_faults(node)
    if isinstance(node, (ast.For, ast.While)) and node.orelse or isinstance(node, ast.Try) and node.finalbody:
        faults.append(f"L6 {kind}")
    if isinstance(node, ast.Assign) and len(node.targets) > 1:
        faults.append("L6 targets")
    if isinstance(node, ast.ListComp) and (len(node.generators) > 1 or len(node.generators[0].ifs) > 1):
        faults.append("L7 a comprehension")
    if isinstance(node, ast.Constant) and isinstance(node.value, (float, complex, bytes)):
        faults.append("L7 a value")
    if isinstance(node, ast.FormattedValue) and (not isinstance(node.value, ast.Name) or node.format_spec):
        faults.append("L7 an f-string")
    if isinstance(node, ast.Compare) and any(isinstance(sign, (ast.Is, ast.IsNot)) for sign in node.ops):
        if not is_plain(node.left) and not is_plain(node.comparators[0]):
            faults.append("L20 is")
    return faults


def called_methods(tree):
    for node in ast.walk(tree):
        if isinstance(node, ast.Call) and isinstance(node.func, ast.Attribute):
            yield node.func.attr


def own_methods(trees):
    found = set()
    for tree in trees:
        for node in ast.walk(tree):
            if isinstance(node, ast.ClassDef):
                found |= {item.name for item in node.body if isinstance(item, ast.FunctionDef)}
    return found


def own_values(trees):
    return {node.attr for tree in trees for node in ast.walk(tree)
            if isinstance(node, ast.Attribute) and isinstance(node.ctx, ast.Store)}


def class_name_faults(trees):
    methods = own_methods(trees)
    values = own_values(trees)
    faults = [f"L18 {name}" for name in methods & values]
    faults += [f"L26 {name}" for name in (methods - SPECIAL - METHODS - {"add", "discard"}) & PYTHONS_OWN]
    return faults + [f"L26 {name}" for name in (values - FREE_VALUES) & PYTHONS_OWN | values & {"args"}]


def called(node):
    """The name by which a call calls, or None."""
    if not isinstance(node, ast.Call):
        return None
    return node.func.attr if isinstance(node.func, ast.Attribute) else getattr(node.func, "id", None)


def is_walked(node, parent):
    if isinstance(parent, (ast.For, ast.comprehension)):
        return parent.iter is node
    return called(parent) in WALKERS and parent.args[:1] == [node] or called(parent) == "zip"


def is_asked(parent, node):
    """Whether a set stands where it is neither kept nor walked."""
    if isinstance(parent, ast.BinOp):
        return isinstance(parent.op, (ast.Sub, ast.BitAnd, ast.BitOr, ast.BitXor))
    if isinstance(parent, ast.Compare):
        return all(isinstance(sign, (ast.In, ast.NotIn, ast.Eq, ast.NotEq)) for sign in parent.ops)
    return called(parent) in {"sorted", "len"} and not parent.keywords and parent.args == [node]


def pair_faults(node, parent, own):
    """What is seen of a call by what it stands in."""
    name = called(node)
    faults = []
    if name in WALKED and not is_walked(node, parent):
        faults.append(f"L23 {name}")
    if name in {"set", "frozenset"} and not is_asked(parent, node):
        faults.append(f"L24 {name}")
    given = {word.arg for word in node.keywords} if isinstance(node, ast.Call) else set()
    if name in OWN_NAMES | METHODS and name not in own and not given <= KEYWORDS.get(name, set()):
        faults.append(f"L22 {name}")
    if isinstance(node, ast.Attribute) and node.attr in METHODS - own:
        if not isinstance(parent, (ast.Call, ast.keyword)) or isinstance(parent, ast.Call) and parent.func is not node:
            faults.append(f"L25 {node.attr} handed on")
    if isinstance(node, ast.BinOp) and isinstance(node.op, ast.Pow) and not isinstance(node.right, ast.Constant):
        faults.append("L27 a power")
    if isinstance(node, ast.Constant) and isinstance(node.value, str) and "%" in node.value:
        faults.append("L27 a sign in a text")
    return faults


def place_faults(tree, own):
    faults = []
    for parent in ast.walk(tree):
        for node in ast.iter_child_nodes(parent):
            faults += pair_faults(node, parent, own)
    return faults


def hidden_faults(tree):
    """Parameters and locals that are called like an import, a class or a function of the file."""
    tops = [name.name for node in tree.body if isinstance(node, ast.ImportFrom) for name in node.names]
    tops += [node.name for node in tree.body if isinstance(node, (ast.ClassDef, ast.FunctionDef))]
    return [f"L15 {name}" for name, stored in names_of(tree) if stored and name in tops]


def faults_of(source, methods):
    tree = ast.parse(source)
    faults = text_faults(source) + top_faults(tree) + name_faults(tree)
    faults += hidden_faults(tree) + place_faults(tree, methods)
    for node in ast.walk(tree):
        faults += node_faults(node)
    faults += [f"L25 {name}" for name in called_methods(tree) if name not in METHODS | methods | SPECIAL]
    return faults


def drawn_from(tree):
    return [node.module for node in tree.body if isinstance(node, ast.ImportFrom)]


class Form(unittest.TestCase):
    def setUp(self):
        self.files = sorted(path for path in PACKAGE.rglob("*") if "__pycache__" not in path.parts)
        self.sources = {path.stem: path.read_text(encoding="utf-8") for path in self.files}
        self.trees = {name: ast.parse(source) for name, source in self.sources.items()}

    def test_the_files(self):
        self.assertIn("__init__", self.sources)
        for path in self.files:
            self.assertRegex(path.name, r"^([a-z][a-z0-9_]*|__init__|__main__)\.py$")

    def test_each_file_keeps_the_rules(self):
        methods = own_methods(self.trees.values())
        for name, source in self.sources.items():
            self.assertEqual(faults_of(source, methods), [], name)

    def test_names_of_methods_and_values(self):
        self.assertEqual(class_name_faults(self.trees.values()), [])

    def test_names_are_drawn_from_the_file_that_defines_them(self):
        for tree in self.trees.values():
            for node in tree.body:
                if isinstance(node, ast.ImportFrom):
                    source = self.trees[node.module.partition(".")[2]]
                    defined = [item.name for item in source.body if isinstance(item, (ast.FunctionDef, ast.ClassDef))]
                    defined += [item.targets[0].id for item in source.body if isinstance(item, ast.Assign)]
                    self.assertLessEqual({name.name for name in node.names}, set(defined))

    def test_no_two_files_draw_from_one_another(self):
        left = {name: {module.partition(".")[2] for module in drawn_from(tree)} for name, tree in self.trees.items()}
        self.assertEqual(left["__init__"], set())
        while left:
            free = [name for name in left if not left[name] & set(left)]
            self.assertNotEqual(free, [], "a ring of imports")
            left = {name: drawn for name, drawn in left.items() if name not in free}


class RulesSee(unittest.TestCase):
    def test_plain_code_has_no_fault(self):
        self.assertEqual(faults_of('"""Why."""\nMOST = 4\n\n\ndef told(room):\n    return [room]\n', set()), [])

    def test_sets_and_walks_on_the_spot_have_no_fault(self):
        for source in (
            "def a(b):\n    return sorted(set(b) - set([1]))\n", "def a(b):\n    return set(b) == set([1])\n",
            "def a(b):\n    return list(b.items())\n", "def a(b):\n    return [c for c, d in enumerate(b)]\n",
            "def a(b):\n    for c in range(b):\n        c.append(b)\n", "def a(b):\n    return b in set([1])\n",
            "def a(b):\n    return sorted(b, key=len, reverse=True)\n", "def a(b):\n    return b ** 2\n",
        ):
            self.assertEqual(faults_of(source, set()), [], source)

    def test_names_of_methods_and_values_that_break_a_rule_are_seen(self):
        head = "class A:\n    def b(self):\n"
        self.assertEqual(class_name_faults([ast.parse(head + "        self.c = 1\n        self.count = 2\n")]), [])
        for source in (head + "        self.b = 1\n", head + "        self.items = 1\n", head + "        self.args = 1\n",
                       "class A:\n    def encode(self):\n        pass\n", "class A:\n    def sort(self):\n        pass\n"):
            self.assertNotEqual(class_name_faults([ast.parse(source)]), [], source)

    def test_what_breaks_a_rule_is_seen(self):
        for source in (
            "import os\n", "from os import path\n", "from . import turns\n", "A = 1\nA = 2\n", "print(1)\n",
            "def a(*b):\n    return b\n", "def a(b):\n    return type(b)\n", "def a(b):\n    return b / 2\n",
            "def a(b):\n    return {c for c in b}\n", "def a(b):\n    yield b\n", "def a(b):\n    del b\n",
            "def a(id):\n    return id\n", "def a(b):\n    round = b\n    return round\n", "class A:\n    b = 1\n",
            "def a(b):\n    return b is a\n", "def a(b):\n    b.sort()\n", "def a(b):\n    return 1.5\n",
            "def a(b):\n    return f'{b + 1}'\n", "def a(_):\n    return 1\n", "def a(b):\n    b = c = 1\n",
            "def a(b):\n    assert b\n", "def a(b):\n    return [c for d in b for c in d]\n", "# " + "a" * 120 + "\n",
            "A = '\u00e4'\n", "# an enum\n", "def a(b):\n    try:\n        pass\n    finally:\n        pass\n",
            "def a():\n" + "    pass\n" * 40, "pass\n" * 401, "def a(b):\n    return chr(b)\n",
            "from cascade.b import c\n\n\ndef a(c):\n    return c\n", "def a(b):\n    a = b\n    return a\n",
            "def a(b):\n    c = set(b)\n    return c\n", "def a(b):\n    return [c for c in set(b)]\n",
            "def a(b):\n    return sorted(set(b), key=len)\n", "def a(b):\n    c = zip(b, b)\n    return c\n",
            "def a(b):\n    return b.items()\n", "def a(b):\n    return b.split(sep=' ')\n", "A = 'a %'\n",
            "def a(b):\n    return 2 ** b\n", "def a(b):\n    return b.append\n",
        ):
            self.assertNotEqual(faults_of(source, set()), [], source)


if __name__ == "__main__":
    unittest.main()
