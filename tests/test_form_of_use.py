"""The form of the package's files, further: how names, Python's own calls, loops and sets are used (L13 to L26)."""

import ast
import builtins
import unittest
from pathlib import Path

PACKAGE = Path(__file__).resolve().parent.parent / "causebook"

WALKED = ["zip", "enumerate", "reversed", "range"]
WALKED_METHODS = ["items", "keys", "values"]
WALKERS = ["list", "tuple", "dict", "sorted", "sum", "any", "all", "enumerate", "zip"]
AS_KEYS = ["len", "int", "str", "abs", "sum", "min", "max", "tuple"]
KEYWORDS = {"sorted": ["key", "reverse"], "min": ["key", "default"], "max": ["key", "default"], "sum": ["start"],
            "enumerate": ["start"], "zip": ["strict"]}
KINDS = ["int", "str", "bool", "list", "tuple", "dict"]
CHANGES = ["append", "clear", "extend", "insert", "pop", "remove", "reverse", "setdefault", "update"]
SET_SIGNS = (ast.Sub, ast.BitAnd, ast.BitOr, ast.BitXor)
NOT_NAMES = """attrgetter breakpoint builtins compile copyright credits delattr dir eval exec exit gc getattr globals
hasattr help id importlib license locals methodcaller os quit setattr super type vars sys open input register mro
elements""".split()


def parents_of(tree):
    found = {}
    for node in ast.walk(tree):
        for child in ast.iter_child_nodes(node):
            found[child] = node
    return found


def called(node):
    return node.func.id if isinstance(node, ast.Call) and isinstance(node.func, ast.Name) else None


def is_walk(node):
    if called(node) in WALKED:
        return True
    return (isinstance(node, ast.Call) and isinstance(node.func, ast.Attribute)
            and node.func.attr in WALKED_METHODS and not node.args)


def walked_on_the_spot(node, parent):
    if isinstance(parent, (ast.For, ast.comprehension)):
        return parent.iter is node
    if called(parent) in WALKERS:
        return parent.args[0] is node or called(parent) == "zip"
    if called(parent) in ("min", "max"):
        return parent.args == [node]
    return (isinstance(parent, ast.Call) and isinstance(parent.func, ast.Attribute) and parent.func.attr == "join"
            and isinstance(parent.func.value, ast.Constant))


def is_set(node):
    if isinstance(node, ast.BinOp) and isinstance(node.op, SET_SIGNS):
        return is_set(node.left) and is_set(node.right)
    return called(node) in ("set", "frozenset") or isinstance(node, ast.Set)


def set_in_place(node, parent):
    if isinstance(parent, ast.BinOp):
        return is_set(parent)
    if isinstance(parent, ast.Compare):
        return all(isinstance(sign, (ast.In, ast.NotIn, ast.Eq, ast.NotEq)) for sign in parent.ops)
    return called(parent) in ("sorted", "len") and not parent.keywords


def faults_of_walks(tree):
    found = []
    parents = parents_of(tree)
    for node in ast.walk(tree):
        if is_walk(node) and not walked_on_the_spot(node, parents[node]):
            found.append(f"L23 kept, line {node.lineno}")
        if (called(node) == "set" or isinstance(node, ast.Set)) and not set_in_place(node, parents[node]):
            found.append(f"L24 set, line {node.lineno}")
    return found


def names_walked(node):
    inner = node.iter
    parts = [inner]
    if called(inner) in WALKED:
        parts = inner.args
    elif isinstance(inner, ast.Call) and isinstance(inner.func, ast.Attribute):
        parts = [inner.func.value]
    return [ast.dump(part) for part in parts if isinstance(part, (ast.Name, ast.Attribute))]


def changed_by(node):
    if isinstance(node, ast.Call) and isinstance(node.func, ast.Attribute) and node.func.attr in CHANGES:
        return [node.func.value]
    if isinstance(node, (ast.Assign, ast.AugAssign)):
        targets = node.targets if isinstance(node, ast.Assign) else [node.target]
        return [target.value if isinstance(target, ast.Subscript) else target for target in targets]
    return []


def faults_of_loops(tree):
    found = []
    for loop in [node for node in ast.walk(tree) if isinstance(node, ast.For)]:
        walked = [name.replace("Store()", "Load()") for name in names_walked(loop)]
        for part in loop.body:
            for node in ast.walk(part):
                for target in changed_by(node):
                    if ast.dump(target).replace("Store()", "Load()") in walked:
                        found.append(f"L23 changed, line {node.lineno}")
    return found


def bound_names(function):
    found = [arg.arg for arg in function.args.args]
    for node in ast.walk(function):
        if isinstance(node, ast.Name) and isinstance(node.ctx, ast.Store):
            found.append(node.id)
        if isinstance(node, ast.arg):
            found.append(node.arg)
        if isinstance(node, ast.ExceptHandler) and node.name:
            found.append(node.name)
    return found


def faults_of_locals(tree):
    taken = [node.name for node in tree.body if isinstance(node, ast.ClassDef)]
    for node in tree.body:
        if isinstance(node, ast.ImportFrom):
            taken += [part.asname or part.name for part in node.names]
    found = []
    for function in [node for node in ast.walk(tree) if isinstance(node, (ast.FunctionDef, ast.Lambda))]:
        for name in bound_names(function):
            if name in taken:
                found.append(f"L15 {name} is an import or a class, line {function.lineno}")
            if hasattr(builtins, name) or name in NOT_NAMES:
                found.append(f"L15 or L17 {name}, line {function.lineno}")
    return found


def unused_imports(tree):
    names = []
    for node in tree.body:
        if isinstance(node, ast.ImportFrom):
            names += [part.name for part in node.names]
            if any(part.asname for part in node.names):
                names.append("as")
    used = [node.id for node in ast.walk(tree) if isinstance(node, ast.Name)]
    return [f"import of {name} not used" for name in names if name not in used]


def faults_of_own(tree):
    """Python's own functions are called, with the keywords that L22 lists; methods are called where they stand."""
    found = []
    parents = parents_of(tree)
    for node in ast.walk(tree):
        parent = parents.get(node)
        if isinstance(node, ast.Name) and hasattr(builtins, node.id) and isinstance(node.ctx, ast.Load):
            kind = isinstance(getattr(builtins, node.id), type)
            is_called = isinstance(parent, ast.Call) and parent.func is node
            as_key = isinstance(parent, ast.keyword) and parent.arg == "key" and node.id in AS_KEYS
            in_check = kind and node.id in KINDS and "isinstance" in (called(parent), called(parents.get(parent)))
            is_error = kind and issubclass(getattr(builtins, node.id), Exception)
            if not (is_called or as_key or in_check or is_error):
                found.append(f"L22 {node.id} kept, line {node.lineno}")
        if isinstance(node, ast.Call) and node.keywords:
            allowed = KEYWORDS.get(called(node), [])
            own = isinstance(node.func, ast.Name) and not hasattr(builtins, node.func.id)
            if not own and [part.arg for part in node.keywords if part.arg not in allowed]:
                found.append(f"L22 keyword, line {node.lineno}")
    return found


def faults_of_handlers(tree):
    """Of Python's errors none but KeyError and ZeroDivisionError is taken: the rest is narrower than is needed here."""
    found = []
    for node in ast.walk(tree):
        if isinstance(node, ast.ExceptHandler):
            for name in [part.id for part in ast.walk(node.type) if isinstance(part, ast.Name)]:
                if hasattr(builtins, name) and name not in ("KeyError", "ZeroDivisionError"):
                    found.append(f"L19 {name}, line {node.lineno}")
        if isinstance(node, ast.Raise) and not isinstance(node.exc, ast.Call):
            found.append(f"L19 raise, line {node.lineno}")
    return found


def faults_of_tops(tree):
    """A list or dict of a file's top holds none itself and is changed by no def."""
    found = []
    tops = {}
    for node in tree.body:
        if isinstance(node, ast.Assign):
            tops[node.targets[0].id] = node.value
            for inner in ast.walk(node.value):
                if inner is not node.value and isinstance(inner, (ast.List, ast.Dict)):
                    found.append(f"L15 list within, line {node.lineno}")
    held = [name for name, value in tops.items() if isinstance(value, (ast.List, ast.Dict))]
    parents = parents_of(tree)
    for node in ast.walk(tree):
        if isinstance(node, ast.Name) and node.id in held and isinstance(node.ctx, ast.Load):
            parent = parents[node]
            read = (isinstance(parent, (ast.Subscript, ast.Compare, ast.For, ast.comprehension))
                    or called(parent) in ("len", "list", "dict", "sorted")
                    or isinstance(parent, ast.Attribute) and parent.attr in ("get", "items", "keys", "values"))
            if not read or isinstance(parent, ast.Subscript) and isinstance(parent.ctx, ast.Store):
                found.append(f"L15 {node.id} handed on, line {node.lineno}")
    return found


def faults(text):
    tree = ast.parse(text)
    found = []
    for check in (faults_of_walks, faults_of_loops, faults_of_locals, faults_of_own, faults_of_handlers,
                  faults_of_tops):
        found += check(tree)
    return found


def files():
    return {path.name: path.read_text("utf-8") for path in sorted(PACKAGE.glob("*.py"))}


class TheFiles(unittest.TestCase):
    def test_each_keeps_to_the_form(self):
        for name, text in files().items():
            with self.subTest(file=name):
                self.assertEqual(faults(text), [])

    def test_nothing_is_imported_for_nothing(self):
        for name, text in files().items():
            with self.subTest(file=name):
                self.assertEqual(unused_imports(ast.parse(text)), [])

    def test_no_name_is_a_method_here_and_a_value_there(self):
        methods, values = set(), set()
        for text in files().values():
            for node in ast.walk(ast.parse(text)):
                if isinstance(node, ast.ClassDef):
                    methods |= {part.name for part in node.body if isinstance(part, ast.FunctionDef)}
                if isinstance(node, ast.Attribute) and isinstance(node.ctx, ast.Store):
                    values.add(node.attr)
        self.assertEqual(methods & values, set())
        for kind in (str, int, list, dict, set, bytes, tuple):
            self.assertEqual(values & set(dir(kind)), set())


class TheCheck(unittest.TestCase):
    def test_it_sees_what_is_outside(self):
        for body in (
            "a = range(3)", "return zip(xs, xs)", "return two(range(3))", "a = xs.items()", "return set(xs)",
            "a = {1, 2}", "for x in set(xs):\n        pass", "for x in xs:\n        xs.append(x)",
            "for x in list(ys):\n        pass\n    return len", "for k, x in enumerate(xs):\n        xs[k] = 1",
            "NoBook = 1", "open = 1", "return two(sorted)", "return xs.pop(index=1)", "return int('1', base=2)",
            "try:\n        return int(xs)\n    except ValueError:\n        return 1", "raise NoBook", "KEPT.append(1)",
            "return two(KEPT)", "KEPT[0] = 1", "return KEPT", "return [NoBook for NoBook in xs]",
        ):
            text = f"from causebook.errors import NoBook\nKEPT = [1]\n\n\ndef one(xs, ys):\n    {body}\n"
            with self.subTest(body=body):
                self.assertNotEqual(faults(text), [])

    def test_it_lets_the_rest_be(self):
        for body in (
            "return list(range(3))", "for x, y in zip(xs, ys):\n        two(x, y)", "return sorted(set(xs) | set(ys))",
            "return len(set(xs) & set(ys)) > 0", "return 1 in set(xs)", "return [x for x in reversed(xs)]",
            "for x in xs:\n        ys.append(x)", "return min(xs, key=len, default=None)", "return KEPT[0] + len(KEPT)",
            "raise NoBook('words')", "return isinstance(xs, list)", "return isinstance(xs, (int, str))",
            "return ' '.join(xs)", "return two(one, lambda k: xs[k])", "return list(KEPT)",
        ):
            text = f"from causebook.errors import NoBook\nKEPT = [1]\n\n\ndef one(xs, ys):\n    {body}\n"
            with self.subTest(body=body):
                self.assertEqual(faults(text), [])


if __name__ == "__main__":
    unittest.main()
