"""The form of the package's files. The rules' numbers (L1 to L28) are those of LANGUAGE.md.

What can be told from the syntax alone is looked at here; the rest is left to a reader.
"""

import ast
import builtins
import os
import re
import unittest

TOP = os.path.join(os.path.dirname(os.path.abspath(__file__)), "..", "calmring")

OWN_NAMES = """len range enumerate zip min max sum abs sorted reversed int str bool list tuple dict set
frozenset isinstance ord repr any all divmod Exception ValueError TypeError KeyError IndexError
LookupError ZeroDivisionError ArithmeticError OverflowError RuntimeError NotImplementedError
AttributeError StopIteration""".split()
OWN_METHODS = """append clear copy count endswith extend find get index insert isalnum isalpha isdigit
islower isspace isupper items join keys ljust lower lstrip partition pop remove replace reverse rfind
rjust rpartition rsplit rstrip setdefault split splitlines startswith strip update upper values zfill
bit_length""".split()
DUNDERS = ["__init__", "__eq__", "__repr__", "__str__", "__len__"]
NEVER = "register mro elements open input version_info with_traceback add_note format format_map".split()
WORDS = re.compile(
    r"\b(type|typing|typing_extensions|enum|Enum|IntEnum|StrEnum|Flag|IntFlag|Generic|Protocol|ABC|ABCMeta"
    r"|namedtuple|NamedTuple|TypedDict|TYPE_CHECKING|abstractmethod)\b|dataclass|overload|contextmanager")
STATEMENTS = (
    ast.Assign, ast.AugAssign, ast.If, ast.While, ast.For, ast.Return, ast.Break, ast.Continue, ast.Pass,
    ast.Raise, ast.Try, ast.Expr, ast.FunctionDef, ast.ClassDef, ast.ImportFrom)
EXPRESSIONS = (
    ast.Constant, ast.Name, ast.List, ast.Tuple, ast.Dict, ast.Set, ast.BinOp, ast.UnaryOp, ast.BoolOp,
    ast.Compare, ast.IfExp, ast.Call, ast.Attribute, ast.Subscript, ast.Slice, ast.ListComp, ast.JoinedStr,
    ast.FormattedValue, ast.Lambda)


def package_files():
    return sorted(name for name in os.listdir(TOP) if name != "__pycache__")


def text_of(name):
    with open(os.path.join(TOP, name), encoding="utf-8", newline="") as file:
        return file.read()


def signs(text):
    for number, row in enumerate(text.split("\n"), 1):
        if not all(" " <= sign <= "~" for sign in row):
            yield number, "L14: a sign that is not plain"
        if len(row) > 120:
            yield number, "L10: a long line"
        if WORDS.search(row):
            yield number, "L17: a word that stands nowhere"
    if text.count("\n") > 400:
        yield 400, "L10: a long file"


def is_docstring(node):
    return isinstance(node, ast.Expr) and isinstance(node.value, ast.Constant) and isinstance(node.value.value, str)


def top(tree):
    bound = []
    for number, node in enumerate(tree.body):
        if isinstance(node, ast.ImportFrom):
            bound += [alias.asname or alias.name for alias in node.names]
        elif isinstance(node, (ast.FunctionDef, ast.ClassDef)):
            bound.append(node.name)
        elif isinstance(node, ast.Assign):
            bound += [target.id for target in node.targets if isinstance(target, ast.Name)]
        elif not (number == 0 and is_docstring(node)):
            yield node.lineno, "L3: not for the top of a module"
    for name in bound:
        if bound.count(name) > 1:
            yield 1, f"L15: {name} is bound twice"
        if hasattr(builtins, name):
            yield 1, f"L15: {name} is Python's own"


def statement(node):
    if not isinstance(node, STATEMENTS):
        yield "L6: no such statement"
    if isinstance(node, ast.Expr) and not isinstance(node.value, ast.Call) and not is_docstring(node):
        yield "L6: no call"
    if isinstance(node, (ast.For, ast.While)) and node.orelse:
        yield "L6: else behind a loop"
    if isinstance(node, ast.Try) and (node.finalbody or any(one.type is None for one in node.handlers)):
        yield "L6: finally or a bare except"
    if isinstance(node, ast.Assign) and (len(node.targets) > 1):
        yield "L6: more than one target"
    if isinstance(node, ast.ImportFrom) and (
            node.level or not (node.module or "").startswith("calmring.") or node.col_offset
            or any(alias.name == "*" for alias in node.names)):
        yield "L2: not the package's own"
    if isinstance(node, (ast.FunctionDef, ast.ClassDef)):
        yield from definition(node)


def definition(node):
    if node.decorator_list:
        yield "L4: a decorator"
    if isinstance(node, ast.FunctionDef):
        if node.end_lineno - node.lineno >= 40:
            yield "L10: a long function"
        if node.args.vararg or node.args.kwarg or node.args.kwonlyargs or node.args.posonlyargs:
            yield "L4: not a plain parameter"
    else:
        if len(node.bases) > 1 or node.keywords:
            yield "L5: more than one base"
        if not all(isinstance(one, (ast.FunctionDef, ast.Pass)) or is_docstring(one) for one in node.body):
            yield "L5: a value in a class"


def expression(node, known):
    if not isinstance(node, EXPRESSIONS):
        yield "L7: no such expression"
    if isinstance(node, ast.Constant) and not (node.value is None or isinstance(node.value, (bool, int, str))):
        yield "L7: no such value"
    if isinstance(node, ast.Constant) and isinstance(node.value, str) and "%" in node.value:
        yield "L27: a percent sign in a text"
    if isinstance(node, ast.BinOp) and isinstance(node.op, ast.Div):
        yield "L7: a broken number"
    if isinstance(node, ast.BinOp) and isinstance(node.op, ast.Pow) and not isinstance(node.right, ast.Constant):
        yield "L27: a power that is not written"
    if isinstance(node, ast.ListComp) and (len(node.generators) > 1 or len(node.generators[0].ifs) > 1):
        yield "L7: more than one for or if"
    if isinstance(node, ast.Compare) and any(isinstance(op, (ast.Is, ast.IsNot)) for op in node.ops):
        beside = [node.left] + node.comparators
        if not any(isinstance(one, ast.Constant) and one.value in (None, True, False) for one in beside):
            yield "L20: is"
    if isinstance(node, ast.Name):
        yield from name_of(node, known)
    if isinstance(node, ast.Attribute) and not plain(node.attr):
        yield f"L12: {node.attr}"


def name_of(node, known):
    if not plain(node.id):
        yield f"L12: {node.id}"
    if isinstance(node.ctx, ast.Store) and hasattr(builtins, node.id):
        yield f"L15: {node.id} is Python's own"
    if isinstance(node.ctx, ast.Load) and node.id not in known and node.id not in OWN_NAMES:
        yield f"L8: {node.id} is not known"


def plain(name):
    return name in DUNDERS or (not name.startswith("_") and name.isascii() and name not in NEVER)


def names_known(tree):
    known = []
    for node in ast.walk(tree):
        if isinstance(node, (ast.FunctionDef, ast.ClassDef)):
            known.append(node.name)
        elif isinstance(node, ast.arg):
            known.append(node.arg)
        elif isinstance(node, ast.alias):
            known.append(node.asname or node.name)
        elif isinstance(node, ast.Name) and isinstance(node.ctx, ast.Store):
            known.append(node.id)
        elif isinstance(node, ast.ExceptHandler) and node.name:
            known.append(node.name)
    return known


WALKED = ["zip", "enumerate", "reversed", "range"]
WALKED_METHODS = ["items", "keys", "values"]
WALKERS = ["list", "tuple", "dict", "sorted", "sum", "any", "all", "enumerate", "zip"]
KEYWORDS = {"sorted": ["key", "reverse"], "min": ["key", "default"], "max": ["key", "default"], "sum": ["start"],
            "enumerate": ["start"], "zip": ["strict"]}


def called(node):
    return node.func.id if isinstance(node, ast.Call) and isinstance(node.func, ast.Name) else None


def is_walked_at_once(node, parent):
    if isinstance(parent, (ast.For, ast.comprehension)):
        return parent.iter is node
    if called(parent) in WALKERS:
        return parent.args[0] is node
    if called(parent) in ("min", "max"):
        return len(parent.args) == 1
    return isinstance(parent, ast.Call) and isinstance(parent.func, ast.Attribute) and parent.func.attr == "join"


def is_set_on_the_spot(node, parents):
    parent = parents[node]
    while isinstance(parent, ast.BinOp) and isinstance(parent.op, (ast.Sub, ast.BitAnd, ast.BitOr, ast.BitXor)):
        parent = parents[parent]
    if isinstance(parent, ast.Compare):
        return all(isinstance(op, (ast.In, ast.NotIn, ast.Eq, ast.NotEq)) for op in parent.ops)
    return called(parent) in ("sorted", "len") and not parent.keywords


def uses(tree):
    """What is seen only by what stands around a thing."""
    parents = {inner: outer for outer in ast.walk(tree) for inner in ast.iter_child_nodes(outer)}
    drawn = [alias.asname or alias.name for node in tree.body if isinstance(node, ast.ImportFrom) for alias in node.names]
    drawn += [node.name for node in tree.body if isinstance(node, ast.ClassDef)]
    for node in ast.walk(tree):
        if isinstance(node, ast.Call):
            method = node.func.attr if isinstance(node.func, ast.Attribute) else None
            if (called(node) in WALKED or method in WALKED_METHODS) and not is_walked_at_once(node, parents[node]):
                yield node.lineno, "L23: not walked at once"
            if called(node) in ("set", "frozenset") and not is_set_on_the_spot(node, parents):
                yield node.lineno, "L24: a set that is kept or walked"
            if called(node) in OWN_NAMES and not all(one.arg in KEYWORDS.get(called(node), []) for one in node.keywords):
                yield node.lineno, "L22: a keyword"
        if isinstance(node, ast.Set) and not is_set_on_the_spot(node, parents):
            yield node.lineno, "L24: a set that is kept or walked"
        if isinstance(node, ast.Name) and isinstance(node.ctx, ast.Store) and node.id in drawn:
            yield node.lineno, f"L15: {node.id} is a class or an import"
        if isinstance(node, ast.arg) and node.arg in drawn:
            yield node.lineno, f"L15: {node.arg} is a class or an import"
        if isinstance(node, ast.arg) and node.annotation or isinstance(node, ast.FunctionDef) and node.returns:
            yield node.lineno, "L21: an annotation"
        if isinstance(node, ast.Name) and node.id in OWN_NAMES and not is_own_name_called(node, parents[node]):
            yield node.lineno, f"L22: {node.id} is not called"


def is_own_name_called(node, parent):
    if isinstance(parent, ast.Call):
        return parent.func is node or called(parent) == "isinstance"
    return isinstance(parent, (ast.ClassDef, ast.ExceptHandler, ast.Raise, ast.Tuple, ast.keyword))


def faults(text):
    tree = ast.parse(text)
    found = list(signs(text)) + list(top(tree)) + list(uses(tree))
    known = names_known(tree)
    for node in ast.walk(tree):
        said = []
        if isinstance(node, ast.stmt):
            said = statement(node)
        elif isinstance(node, ast.expr):
            said = expression(node, known)
        elif isinstance(node, ast.arg) and (hasattr(builtins, node.arg) or not plain(node.arg)):
            said = [f"L15: {node.arg}"]
        found += [(node.lineno, words) for words in said]
    return found


def members(trees):
    """The names of all methods and of all values of objects, in the whole package."""
    methods, values = set(), set()
    for tree in trees:
        for node in ast.walk(tree):
            if isinstance(node, ast.ClassDef):
                methods.update(one.name for one in node.body if isinstance(one, ast.FunctionDef))
            if isinstance(node, ast.Attribute) and isinstance(node.ctx, ast.Store):
                values.add(node.attr)
    return methods, values


class FormTest(unittest.TestCase):
    def trees(self):
        return {name: ast.parse(text_of(name)) for name in package_files()}

    def test_files(self):
        self.assertIn("__init__.py", package_files())
        for name in package_files():
            self.assertRegex(name, r"\A([a-z][a-z0-9_]*|__init__|__main__)\.py\Z")
            if not name.startswith("__"):
                self.assertFalse(hasattr(builtins, name[:-3]), name)

    def test_each_file_keeps_the_form(self):
        for name in package_files():
            with self.subTest(name=name):
                self.assertEqual(faults(text_of(name)), [])

    def test_no_name_is_a_method_and_a_value(self):
        methods, values = members(self.trees().values())
        self.assertEqual(methods & values, set())

    def test_no_method_or_value_is_called_like_one_of_pythons_own(self):
        own = {name for kind in (str, int, list, dict, set, tuple, bytes) for name in dir(kind)} - set(DUNDERS)
        methods, values = members(self.trees().values())
        self.assertEqual((methods | values) & own, set())

    def test_no_error_is_taken(self):
        # So nothing of L19 but the raising has to be looked at.
        for name, tree in self.trees().items():
            self.assertFalse(any(isinstance(node, ast.Try) for node in ast.walk(tree)), name)
            for node in ast.walk(tree):
                if isinstance(node, ast.Raise):
                    self.assertIsInstance(node.exc, ast.Call, (name, node.lineno))

    def test_called_methods_are_known(self):
        methods, values = members(self.trees().values())
        for name, tree in self.trees().items():
            for node in ast.walk(tree):
                if isinstance(node, ast.Call) and isinstance(node.func, ast.Attribute):
                    self.assertIn(node.func.attr, sorted(methods) + OWN_METHODS, (name, node.lineno))

    def test_imports_draw_from_the_defining_file_and_never_round(self):
        trees = self.trees()
        draws = {}
        for name, tree in trees.items():
            draws[name] = []
            for node in tree.body:
                if isinstance(node, ast.ImportFrom):
                    source = node.module.split(".", 1)[1] + ".py"
                    defined = [one.name for one in trees[source].body if isinstance(one, (ast.FunctionDef, ast.ClassDef))]
                    for one in trees[source].body:
                        if isinstance(one, ast.Assign):
                            defined += [target.id for target in one.targets]
                    for alias in node.names:
                        self.assertIn(alias.name, defined, (name, node.lineno))
                    draws[name].append(source)
        while draws:
            free = [name for name in draws if not any(source in draws for source in draws[name])]
            self.assertTrue(free, draws)
            for name in free:
                del draws[name]


class FaultsTest(unittest.TestCase):
    """The looker at the form sees what it is there for."""

    WRONG = [
        "import os\n", "from os import path\n", "from .errors import BadNet\n", "from calmring.errors import *\n",
        "print(1)\n", "x = 1\nx = 2\n", "x = 1.5\n", "x = b'a'\n", "x = 1 / 2\n", "a = b = 1\n", "len = 3\n",
        "def f(*args):\n    pass\n", "def f(**more):\n    pass\n", "def f(list):\n    pass\n", "def _f(n):\n    n._x = 1\n",
        "def f(n):\n    return 2 ** n\n", "def f(n):\n    return n is 3\n", "def f(n):\n    return super()\n",
        "def f(n):\n    yield n\n", "def f(n):\n    assert n\n", "def f(n):\n    n\n", "def f(n):\n    return {k for k in n}\n",
        "def f(n):\n    return [a for a in n for b in a]\n", "def f(n):\n    while n:\n        pass\n    else:\n        pass\n",
        "def f(n):\n    try:\n        pass\n    except:\n        pass\n", "def f(n):\n    with n:\n        pass\n",
        "class A:\n    x = 1\n", "class A(B, C):\n    pass\n", "@f\ndef g():\n    pass\n", "x = '%'\n", "# the type\n",
        "def f(n):\n    k = range(n)\n    return list(k)\n", "def f(n):\n    return list(reversed(range(n)))\n",
        "def f(d):\n    return d.items()\n", "def f(n):\n    k = set(n)\n    return k\n",
        "def f(n):\n    return [k for k in set(n)]\n", "def f(n):\n    return {1, n}\n", "def f(n: int):\n    return n\n",
        "def f(n):\n    return list(n, key=len)\n", "def f(n):\n    k = len\n    return k(n)\n",
        "from calmring.errors import BadNet\n\n\ndef f(BadNet):\n    return BadNet\n",
        "class A:\n    pass\n\n\ndef f(n):\n    A = n\n    return A\n",
        "x = 1  # \u00e9\n", "x = 1\t\n", "x = '" + "a" * 120 + "'\n", "def f():\n" + "    pass\n" * 40, "\n" * 401,
    ]

    def test_each_wrong_text_has_a_fault(self):
        for text in self.WRONG:
            with self.subTest(text=text[:60]):
                self.assertNotEqual(faults(text), [])

    def test_a_right_text_has_none(self):
        right = '"""Words."""\n\nTEN = 10\n\n\ndef f(n):\n    return [k * TEN for k in range(n) if k != 3]\n'
        self.assertEqual(faults(right), [])
        for line in ("return list(reversed(n))", "return len(set(n)) == 2", "return sorted(set(n) - set(n))",
                     "return max(n, default=None)", "return sum([a for a, b in zip(n, n)])", "return 3 in set(n)",
                     "return isinstance(n, (int, str))"):
            self.assertEqual(faults("def f(n):\n    " + line + "\n"), [])


if __name__ == "__main__":
    unittest.main()
