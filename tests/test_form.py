"""The form of the package's files: what can be seen of LANGUAGE.md (L1 to L28) by reading them."""

import ast
import builtins
import re
import unittest
from pathlib import Path

PACKAGE = Path(__file__).resolve().parent.parent / "causebook"

ERRORS = """Exception ValueError TypeError KeyError IndexError LookupError ZeroDivisionError ArithmeticError
OverflowError RuntimeError NotImplementedError AttributeError StopIteration""".split()
BUILT_IN = """len range enumerate zip min max sum abs sorted reversed int str bool list tuple dict set frozenset
isinstance ord repr any all divmod""".split() + ERRORS
METHODS = """append clear copy count endswith extend find get index insert isalnum isalpha isdigit islower isspace
isupper items join keys ljust lower lstrip partition pop remove replace reverse rfind rjust rpartition rsplit rstrip
setdefault split splitlines startswith strip update upper values zfill bit_length""".split()
OWN_DUNDERS = ["__init__", "__eq__", "__repr__", "__str__", "__len__"]
NODES = """Module FunctionDef ClassDef arguments arg Return Assign AugAssign AnnAssign For While If Raise Try
ExceptHandler Expr Pass Break Continue ImportFrom alias BoolOp BinOp UnaryOp Lambda IfExp Dict List Tuple Set ListComp
comprehension Compare Call JoinedStr FormattedValue Constant Attribute Subscript Slice Name Load Store keyword
And Or Not USub UAdd Invert Add Sub Mult FloorDiv Mod Pow BitAnd BitOr BitXor LShift RShift
Eq NotEq Lt LtE Gt GtE Is IsNot In NotIn""".split()
WORDS = re.compile(r"\b(type|typing|typing_extensions|enum|Enum|IntEnum|StrEnum|Flag|IntFlag|Generic|Protocol|ABC"
                   r"|ABCMeta|namedtuple|NamedTuple|TypedDict|TYPE_CHECKING|abstractmethod)\b"
                   r"|dataclass|overload|contextmanager")
NOT_USED = "register mro elements open input version_info with_traceback add_note format format_map".split()


def faults_of_rows(text):
    found = []
    rows = text.split("\n")
    if len(rows) > 401:
        found.append("L10 long file")
    for row in rows:
        if len(row) > 120:
            found.append("L10 long line")
        if re.search(r"[^ -~]", row):
            found.append("L14 sign")
        if WORDS.search(row):
            found.append("L17 word")
    return found


def is_plain(node):
    if isinstance(node, (ast.List, ast.Tuple)):
        return all(is_plain(part) for part in node.elts)
    if isinstance(node, ast.Dict):
        return all(part is not None and is_plain(part) for part in node.keys + node.values)
    if isinstance(node, ast.UnaryOp):
        return is_plain(node.operand)
    return isinstance(node, (ast.Constant, ast.Name))


def faults_of_top(tree):
    found, bound = [], []
    for place, node in enumerate(tree.body):
        if isinstance(node, (ast.FunctionDef, ast.ClassDef)):
            bound.append(node.name)
        elif isinstance(node, ast.ImportFrom):
            bound += [part.asname or part.name for part in node.names]
        elif isinstance(node, ast.Assign) and isinstance(node.targets[0], ast.Name) and is_plain(node.value):
            bound.append(node.targets[0].id)
        elif place != 0 or ast.get_docstring(tree) is None:
            found.append("L3 top")
    return found + ["L15 bound twice" for name in set(bound) if bound.count(name) > 1]


def faults_of_import(node):
    own = node.level == 0 and (node.module or "").startswith("causebook.")
    future = node.module == "__future__" and [part.name for part in node.names] == ["annotations"]
    return [] if future or own and all(part.name != "*" for part in node.names) else ["L2 import"]


def faults_of_def(node):
    found = []
    kept = node.args
    if kept.vararg or kept.kwarg or kept.kwonlyargs or kept.posonlyargs:
        found.append("L4 parameters")
    if isinstance(node, ast.FunctionDef):
        if node.decorator_list:
            found.append("L4 decorator")
        if node.end_lineno - node.lineno + 1 > 40:
            found.append("L10 long function")
        if node.name.startswith("_") and node.name not in OWN_DUNDERS:
            found.append("L12 name")
    return found


def faults_of_class(node):
    found = []
    if node.decorator_list or node.keywords or len(node.bases) > 1:
        found.append("L5 class")
    for part in node.body:
        if not isinstance(part, (ast.FunctionDef, ast.Pass)):
            found.append("L5 body")
    return found


def faults_of_name(node):
    name = node.id if isinstance(node, ast.Name) else node.arg if isinstance(node, ast.arg) else node.attr
    if name in NOT_USED:
        return ["L17 name"]
    if name.startswith("_") and not (isinstance(node, ast.Attribute) and name == "__init__"):
        return ["L12 name"]
    if isinstance(node, ast.Attribute) or not hasattr(builtins, name):
        return []
    if isinstance(node, ast.arg) or isinstance(node.ctx, ast.Store):
        return ["L15 Python's own"]
    return [] if name in BUILT_IN else ["L8 built-in"]


def faults_of_constant(node):
    if isinstance(node.value, (float, complex, bytes)) or node.value is Ellipsis:
        return ["L7 value"]
    return ["L27 sign in a text"] if isinstance(node.value, str) and "%" in node.value else []


def faults_of_compare(node):
    found = []
    sides = [node.left] + node.comparators
    for place, sign in enumerate(node.ops):
        pair = sides[place:place + 2]
        if isinstance(sign, (ast.Is, ast.IsNot)):
            if not any(isinstance(side, ast.Constant) and side.value in (None, True, False) for side in pair):
                found.append("L20 is")
    return found


def faults_of_statement(node):
    found = []
    if isinstance(node, ast.Assign) and (len(node.targets) > 1 or isinstance(node.targets[0], (ast.Tuple, ast.List))):
        found.append("L6 one target")
    if isinstance(node, (ast.For, ast.While)) and node.orelse:
        found.append("L6 else")
    if isinstance(node, ast.Try) and node.finalbody:
        found.append("L6 finally")
    if isinstance(node, ast.ExceptHandler):
        if node.type is None or re.search(r"'(Exception|TypeError)'", ast.dump(node.type)):
            found.append("L19 except")
    return found


def faults_of_expression(node):
    found = []
    if isinstance(node, ast.ListComp) and (len(node.generators) > 1 or len(node.generators[0].ifs) > 1):
        found.append("L7 comprehension")
    if isinstance(node, ast.BinOp) and isinstance(node.op, ast.Pow):
        if not (isinstance(node.right, ast.Constant) and node.right.value in range(65)):
            found.append("L27 power")
    if isinstance(node, ast.FormattedValue) and not isinstance(node.value, ast.Name):
        found.append("L7 f-string")
    return found


def faults_of_node(node):
    if type(node).__name__ not in NODES:
        return ["L6 or L7 " + type(node).__name__]
    if isinstance(node, (ast.FunctionDef, ast.Lambda)):
        return faults_of_def(node)
    if isinstance(node, (ast.Name, ast.arg, ast.Attribute)):
        return faults_of_name(node)
    for kind, check in ((ast.ImportFrom, faults_of_import), (ast.ClassDef, faults_of_class),
                        (ast.Constant, faults_of_constant), (ast.Compare, faults_of_compare)):
        if isinstance(node, kind):
            return check(node)
    return faults_of_statement(node) + faults_of_expression(node)


def faults_of_bare(tree):
    docstring = tree.body[0] if ast.get_docstring(tree) is not None else None
    bare = [node for node in ast.walk(tree) if isinstance(node, ast.Expr) and node is not docstring]
    return ["L6 bare" for node in bare if not isinstance(node.value, ast.Call)]


def faults(text):
    tree = ast.parse(text)
    found = faults_of_rows(text) + faults_of_top(tree) + faults_of_bare(tree)
    for node in ast.walk(tree):
        found += faults_of_node(node)
    return found


def trees():
    return {path.stem: ast.parse(path.read_text("utf-8")) for path in sorted(PACKAGE.glob("*.py"))}


def imports_of(tree):
    return [node for node in ast.walk(tree) if isinstance(node, ast.ImportFrom) and node.module != "__future__"]


def defined_in(tree):
    names = [node.name for node in tree.body if isinstance(node, (ast.FunctionDef, ast.ClassDef))]
    return names + [node.targets[0].id for node in tree.body if isinstance(node, ast.Assign)]


class ThePackage(unittest.TestCase):
    def test_only_python_files_lie_in_it(self):
        names = [path.name for path in PACKAGE.iterdir() if path.name != "__pycache__"]
        self.assertIn("__init__.py", names)
        for name in names:
            self.assertRegex(name, r"^(__init__|__main__|[a-z][a-z0-9_]*)\.py$")
            self.assertNotRegex(name, r"^(test|tests|testing|test_.*|site|conftest|sitecustomize|usercustomize)\.py$")
            self.assertNotIn(name[:-3], vars(builtins))

    def test_each_file_keeps_to_the_form(self):
        for path in sorted(PACKAGE.glob("*.py")):
            with self.subTest(path=path.name):
                self.assertEqual(faults(path.read_bytes().decode("utf-8")), [])

    def test_names_are_drawn_from_the_file_that_defines_them(self):
        files = trees()
        for name, tree in files.items():
            for node in imports_of(tree):
                for part in node.names:
                    with self.subTest(file=name, name=part.name):
                        self.assertIn(part.name, defined_in(files[node.module.split(".")[1]]))

    def test_no_two_files_draw_from_one_another(self):
        left = {name: {node.module.split(".")[1] for node in imports_of(tree)} for name, tree in trees().items()}
        while left:
            free = [name for name in left if not left[name] & set(left)]
            self.assertTrue(free, left)
            left = {name: left[name] for name in left if name not in free}

    def test_methods_are_those_that_are_listed_or_own(self):
        files = trees().values()
        classes = [node for tree in files for node in ast.walk(tree) if isinstance(node, ast.ClassDef)]
        own = [part.name for node in classes for part in node.body if isinstance(part, ast.FunctionDef)]
        for tree in files:
            for node in ast.walk(tree):
                if isinstance(node, ast.Call) and isinstance(node.func, ast.Attribute):
                    self.assertIn(node.func.attr, METHODS + own)


class TheCheck(unittest.TestCase):
    def test_it_sees_what_is_outside(self):
        for text in (
            "import sys", "from .errors import NoShare", "from causebook.errors import *",
            "from fractions import Fraction", "print(1)", "one = two()", "one = 1\none = 2", "def one(*rest):\n    return 1",
            "def one(a, *, b):\n    return 1", "def one():\n    yield 1", "def one():\n    'words'\n    return 1",
            "def one():\n    return 1 / 2", "def one():\n    return 1.5", "def one():\n    return [*two]",
            "def one():\n    a = b = 1", "def one():\n    a, b = 1, 2", "def one():\n    assert 1",
            "def one(a):\n    del a", "def one(id):\n    return 1", "def one():\n    return hash(1)",
            "def one():\n    max = 1", "def one(a, b):\n    return a is b", "def one(a):\n    return 2 ** a",
            "def one(a):\n    return {b for b in a}", "def one(a):\n    return sum(b for b in a)",
            "def one(a):\n    return [b for c in a for b in c]", "def one(a):\n    return f'{a + 1}'",
            "def one():\n    return '%'", "def one():\n    return b'a'", "def _one():\n    return 1",
            "def one():\n    _a = 1", "def one():\n    try:\n        two()\n    except:\n        pass",
            "def one():\n    try:\n        two()\n    except Exception:\n        pass",
            "def one(a):\n    for b in a:\n        pass\n    else:\n        pass", "class One:\n    a = 1",
            "class One(A, B):\n    pass", "@one\ndef two():\n    return 1", "# a type", "# \u00e9", "# tab\there",
            "# " + "a" * 119, "one = 1\n" * 401, "def one():\n" + "    two()\n" * 40, "def one(a):\n    a.format()",
        ):
            with self.subTest(text=text[:60]):
                self.assertNotEqual(faults(text), [])

    def test_it_lets_the_rest_be(self):
        for text in (
            "", '"""Words."""', "from causebook.errors import NoShare", "one = 1\ntwo = (one, 2)\n",
            "def one(a, b=None):\n    return a is None or a == b", "class One(ValueError):\n    pass",
            "def one(a):\n    return [b * 2 for b, c in zip(a, a) if c]", "def one(a):\n    return f'{a!r}'",
            "def one(a):\n    return a ** 2", "def one():\n" + "    two()\n" * 39, "# " + "a" * 118,
            "def one(a):\n    try:\n        two(a)\n    except NoShare as e:\n        raise NoBook('words') from e",
        ):
            with self.subTest(text=text[:60]):
                self.assertEqual(faults(text), [])


if __name__ == "__main__":
    unittest.main()
