"""The form of the package's own files: what of the rules L1 to L28 can be seen in the tree of a file."""

import ast
import builtins
import re
import unittest
from pathlib import Path

PACKAGE = Path(__file__).resolve().parent.parent / "vesselriddle"

OWN_NAMES = set(
    "len range enumerate zip min max sum abs sorted reversed int str bool list tuple dict set frozenset isinstance ord "
    "repr any all divmod Exception ValueError TypeError KeyError IndexError LookupError ZeroDivisionError "
    "ArithmeticError OverflowError RuntimeError NotImplementedError AttributeError StopIteration".split())
OWN_METHODS = set(
    "append clear copy count endswith extend find get index insert isalnum isalpha isdigit islower isspace isupper "
    "items join keys ljust lower lstrip partition pop remove replace reverse rfind rjust rpartition rsplit rstrip "
    "setdefault split splitlines startswith strip update upper values zfill bit_length".split())
CHANGES = set("append clear extend insert pop remove reverse setdefault update".split())
WALKED = set("zip enumerate reversed range".split())
WORDS = re.compile(
    r"\b(type|typing|typing_extensions|enum|Enum|IntEnum|StrEnum|Flag|IntFlag|Generic|Protocol|ABC|ABCMeta|namedtuple"
    r"|NamedTuple|TypedDict|TYPE_CHECKING|abstractmethod)\b|dataclass|overload|contextmanager")
BARRED = set(
    "register mro elements open input version_info with_traceback add_note attrgetter breakpoint builtins compile "
    "copyright credits delattr dir eval exec exit gc getattr globals hasattr help id importlib license locals "
    "methodcaller os quit setattr super type vars sys".split())
STATEMENTS = (ast.Assign, ast.AugAssign, ast.If, ast.While, ast.For, ast.Return, ast.Break, ast.Continue, ast.Pass,
              ast.Raise, ast.Try, ast.Expr, ast.FunctionDef, ast.ClassDef, ast.ImportFrom)
EXPRESSIONS = (ast.Constant, ast.List, ast.Tuple, ast.Dict, ast.BinOp, ast.UnaryOp, ast.BoolOp, ast.Compare, ast.IfExp,
               ast.Call, ast.Attribute, ast.Subscript, ast.Slice, ast.ListComp, ast.Name, ast.Lambda, ast.JoinedStr,
               ast.FormattedValue)
SPECIAL_METHODS = ("__init__", "__eq__", "__repr__", "__str__", "__len__")


def package_files():
    return sorted(PACKAGE.rglob("*.py"))


def is_plain_value(node, functions):
    if isinstance(node, ast.Constant):
        return node.value is None or isinstance(node.value, (bool, int, str))
    if isinstance(node, ast.UnaryOp):
        return isinstance(node.op, ast.USub) and isinstance(node.operand, ast.Constant)
    if isinstance(node, (ast.List, ast.Tuple)):
        return all(is_plain_value(x, functions) for x in node.elts)
    if isinstance(node, ast.Dict):
        return all(is_plain_value(x, functions) for x in node.keys + node.values)
    return isinstance(node, ast.Name) and node.id in functions


def faults_of_names(tree, imported, defined):
    """L8, L12, L15, L17: which names stand in a file."""
    bound = {n.id for n in ast.walk(tree) if isinstance(n, ast.Name) and isinstance(n.ctx, ast.Store)}
    bound |= {n.arg for n in ast.walk(tree) if isinstance(n, ast.arg)}
    for name in sorted(bound):
        plain = re.fullmatch("[A-Za-z][A-Za-z0-9_]*", name)
        if not plain or hasattr(builtins, name) or name in imported or name in BARRED:
            yield f"L15 {name}"
    for node in ast.walk(tree):
        if isinstance(node, ast.Name) and isinstance(node.ctx, ast.Load):
            if node.id not in bound | imported | defined | OWN_NAMES:
                yield f"L8 {node.lineno} {node.id}"
        if isinstance(node, (ast.FunctionDef, ast.ClassDef)):
            if node.name not in SPECIAL_METHODS and (node.name.startswith("_") or hasattr(builtins, node.name)):
                yield f"L12 {node.lineno} {node.name}"


def faults_of_calls(tree, methods):
    """L22, L23, L25: what is called, and how."""
    walked_in = set()
    for node in ast.walk(tree):
        if isinstance(node, (ast.For, ast.comprehension)):
            walked_in.add(node.iter)
        if isinstance(node, ast.Call) and isinstance(node.func, ast.Name):
            walked_in.update(node.args)
    for node in ast.walk(tree):
        if isinstance(node, ast.Call) and isinstance(node.func, ast.Name) and node.func.id in WALKED:
            if node not in walked_in:
                yield f"L23 {node.lineno}"
        if isinstance(node, ast.Call) and isinstance(node.func, ast.Attribute):
            if node.func.attr not in OWN_METHODS | methods:
                yield f"L25 {node.lineno} {node.func.attr}"
        if isinstance(node, ast.Call) and node.keywords:
            yield f"L22 {node.lineno}: a keyword; see whether the rule lists it, and list it here"


def faults_of_sets(tree):
    """L24: a set stands beside in, == or !=, or straight within sorted or len."""
    allowed = set()
    for node in ast.walk(tree):
        if isinstance(node, ast.Compare):
            allowed.update([node.left, *node.comparators])
        if isinstance(node, ast.Call) and isinstance(node.func, ast.Name) and node.func.id in ("sorted", "len"):
            allowed.update(node.args)
    for node in ast.walk(tree):
        if isinstance(node, ast.Call) and isinstance(node.func, ast.Name) and node.func.id in ("set", "frozenset"):
            if node not in allowed:
                yield f"L24 {node.lineno}"


def walked_values(loop):
    """What a loop walks, itself or through enumerate, zip, reversed or items."""
    walked = [loop.iter]
    if isinstance(loop.iter, ast.Call) and isinstance(loop.iter.func, ast.Name):
        walked = loop.iter.args if loop.iter.func.id in ("enumerate", "zip", "reversed") else []
    if isinstance(loop.iter, ast.Call) and isinstance(loop.iter.func, ast.Attribute):
        walked = [loop.iter.func.value]
    return {ast.dump(value) for value in walked}


def faults_of_walks(tree):
    """L23: what a loop walks is not changed in it."""
    for loop in [n for n in ast.walk(tree) if isinstance(n, ast.For)]:
        walked = walked_values(loop)
        for node in [n for statement in loop.body for n in ast.walk(statement)]:
            changed = None
            if isinstance(node, ast.Call) and isinstance(node.func, ast.Attribute) and node.func.attr in CHANGES:
                changed = node.func.value
            if isinstance(node, ast.Subscript) and isinstance(node.ctx, ast.Store):
                changed = node.value
            if changed is not None and ast.dump(changed) in walked:
                yield f"L23 {node.lineno}"


def faults_of_plainness(tree):
    """L15, L19, L21, L27: stricter than the rules, as the package has no need of what they allow."""
    for node in tree.body:
        if isinstance(node, ast.Assign) and isinstance(node.value, (ast.List, ast.Dict)):
            yield f"L15 {node.lineno}: a tuple is enough at a file's top"
    for node in ast.walk(tree):
        if isinstance(node, (ast.Try, ast.Raise)):
            yield f"L19 {node.lineno}"
        if isinstance(node, ast.arg) and node.annotation or isinstance(node, ast.FunctionDef) and node.returns:
            yield f"L21 {node.lineno}"
        if isinstance(node, ast.Constant) and isinstance(node.value, str) and "%" in node.value:
            yield f"L27 {node.lineno}"
        if isinstance(node, ast.ClassDef):
            methods = [x.name for x in node.body if isinstance(x, ast.FunctionDef)]
            if len(set(methods)) != len(methods):
                yield f"L18 {node.lineno}: a method twice"


def faults_of_forms(tree):
    """L4 to L7, L10, L20, L27: which forms stand in a file."""
    for node in ast.walk(tree):
        if isinstance(node, ast.stmt) and not isinstance(node, STATEMENTS):
            yield f"L6 {node.lineno}"
        if isinstance(node, ast.expr) and not isinstance(node, EXPRESSIONS):
            yield f"L7 {node.lineno}"
        if isinstance(node, ast.Assign):
            if len(node.targets) > 1 or isinstance(node.targets[0], (ast.Tuple, ast.List)):
                yield f"L6 {node.lineno}: one target"
        if isinstance(node, (ast.While, ast.For)) and node.orelse:
            yield f"L6 {node.lineno}: else behind a loop"
        if isinstance(node, ast.Constant) and isinstance(node.value, (float, complex, bytes)):
            yield f"L7 {node.lineno}"
        if isinstance(node, ast.BinOp) and isinstance(node.op, (ast.Div, ast.MatMult, ast.Pow)):
            yield f"L7 {node.lineno}: / or **"
        if isinstance(node, ast.ListComp) and (len(node.generators) > 1 or len(node.generators[0].ifs) > 1):
            yield f"L7 {node.lineno}: comprehension"
        if isinstance(node, ast.Compare) and any(isinstance(op, (ast.Is, ast.IsNot)) for op in node.ops):
            yield f"L20 {node.lineno}"
        if isinstance(node, ast.FunctionDef):
            a = node.args
            if node.decorator_list or a.vararg or a.kwarg or a.kwonlyargs or a.posonlyargs:
                yield f"L4 {node.lineno}"
            if node.end_lineno - node.lineno + 1 > 40:
                yield f"L10 {node.lineno}"
        if isinstance(node, ast.ClassDef):
            if node.decorator_list or node.keywords or len(node.bases) > 1:
                yield f"L5 {node.lineno}"
            if not all(isinstance(x, ast.FunctionDef) for x in node.body[1 if ast.get_docstring(node) else 0:]):
                yield f"L5 {node.lineno}: a value in the body"


def faults_of_top(tree):
    """L2, L3, L15, L16: what stands at a file's top."""
    functions = set()
    names = []
    for place, node in enumerate(tree.body):
        if isinstance(node, ast.ImportFrom):
            if node.level or not (node.module or "").startswith("vesselriddle.") or any(x.asname for x in node.names):
                yield f"L2 {node.lineno}"
            names += [x.name for x in node.names]
        elif isinstance(node, (ast.FunctionDef, ast.ClassDef)):
            names.append(node.name)
            if isinstance(node, ast.FunctionDef):
                functions.add(node.name)
        elif isinstance(node, ast.Assign):
            names.append(node.targets[0].id)
            if not is_plain_value(node.value, functions):
                yield f"L3 {node.lineno}"
        elif not (place == 0 and isinstance(node, ast.Expr) and isinstance(node.value, ast.Constant)):
            yield f"L3 {node.lineno}"
    if len(set(names)) != len(names):
        yield "L15 a name bound twice"


def faults_of_text(text):
    """L10, L14, L17: the signs, rows and words of a file."""
    if len(text.splitlines()) > 400:
        yield "L10 rows"
    for number, row in enumerate(text.split("\n"), start=1):
        if len(row) > 120:
            yield f"L10 {number}"
        if not all(" " <= sign <= "~" for sign in row):
            yield f"L14 {number}"
        if WORDS.search(row):
            yield f"L17 {number}"


def faults(text, methods):
    tree = ast.parse(text)
    imported = {x.name for n in tree.body if isinstance(n, ast.ImportFrom) for x in n.names}
    defined = {n.name for n in ast.walk(tree) if isinstance(n, (ast.FunctionDef, ast.ClassDef))}
    found = list(faults_of_text(text)) + list(faults_of_top(tree)) + list(faults_of_forms(tree))
    found += list(faults_of_sets(tree)) + list(faults_of_walks(tree)) + list(faults_of_plainness(tree))
    return found + list(faults_of_names(tree, imported, defined)) + list(faults_of_calls(tree, methods))


def own_methods(texts):
    return {f.name for text in texts for c in ast.walk(ast.parse(text)) if isinstance(c, ast.ClassDef) for f in c.body
            if isinstance(f, ast.FunctionDef)}


class LanguageTest(unittest.TestCase):
    def test_the_package_keeps_to_the_rules(self):
        texts = {path.name: path.read_text(encoding="utf-8") for path in package_files()}
        self.assertIn("vessels.py", texts)
        methods = own_methods(texts.values())
        for name, text in texts.items():
            self.assertEqual(faults(text, methods), [], name)

    def test_names_come_from_the_files_that_define_them_and_in_no_circle(self):
        trees = {f"vesselriddle.{path.stem}": ast.parse(path.read_text(encoding="utf-8")) for path in package_files()}
        drawn = {}
        for name, tree in trees.items():
            rows = [node for node in tree.body if isinstance(node, ast.ImportFrom)]
            drawn[name] = {row.module for row in rows}
            for row in rows:
                there = {n.name for n in trees[row.module].body if isinstance(n, (ast.FunctionDef, ast.ClassDef))}
                there |= {n.targets[0].id for n in trees[row.module].body if isinstance(n, ast.Assign)}
                self.assertEqual([x.name for x in row.names if x.name not in there], [], name)
        while drawn:
            ends = [name for name, modules in drawn.items() if not modules & set(drawn)]
            self.assertNotEqual(ends, [], "files draw from one another")
            drawn = {name: modules for name, modules in drawn.items() if name not in ends}

    def test_only_python_files_with_plain_names(self):
        for path in PACKAGE.rglob("*"):
            if "__pycache__" not in path.parts:
                self.assertRegex(path.name, r"^(__init__|[a-z][a-z0-9_]*)\.py$")

    def test_no_name_is_a_method_and_a_value(self):
        texts = [path.read_text(encoding="utf-8") for path in package_files()]
        stored = {n.attr for text in texts for n in ast.walk(ast.parse(text)) if isinstance(n, ast.Attribute)
                  and isinstance(n.ctx, ast.Store)}
        self.assertEqual(stored & own_methods(texts), set())
        used = sorted(stored | own_methods(texts) - {"__init__"})
        for kind in (int, str, list, dict, set, bytes, tuple):
            self.assertEqual([name for name in used if hasattr(kind, name)], [])

    def test_a_broken_rule_is_seen(self):
        for text in ("import math\n", "x = 1 / 2\n", "def f():\n    assert 1\n", "def f(*a):\n    pass\n",
                     "def f(a):\n    a, b = a\n", "def f(a):\n    return a is 1\n", "def f(min):\n    pass\n",
                     "def f():\n    print(1)\n", "def f(a):\n    a.sort()\n", "# a type\n",
                     "def f():\n    return 1.5\n", "def f():\n    a = range(3)\n    return a\n",
                     "x = 1\nx = 2\n", "class C:\n    x = 1\n",
                     "def f(a):\n    b = set(a)\n    return b\n", "def f(a):\n    for b in a:\n        a.append(b)\n",
                     "def f(a):\n    for b in enumerate(a):\n        a[b] = 1\n", "x = [1]\n",
                     "def f(a: int):\n    return a\n", "x = '%'\n",
                     "class C:\n    def f(self):\n        pass\n\n    def f(self):\n        pass\n",
                     "x = [y for y in (1, 2)]\n", "def f():\n\treturn 1\n", "# \u00e9\n"):
            self.assertNotEqual(faults(text, set()), [], text)


if __name__ == "__main__":
    unittest.main()
