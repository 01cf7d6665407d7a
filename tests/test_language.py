"""Whether the package keeps to its small part of Python, as far as a walk through its code can tell."""

import ast
import builtins
import pathlib
import re
import unittest

PACKAGE = pathlib.Path(__file__).resolve().parent.parent / "ladderhall"
FILES = sorted(PACKAGE.glob("*.py"))

STATEMENTS = (
    ast.FunctionDef, ast.ClassDef, ast.ImportFrom, ast.Assign, ast.AugAssign, ast.If, ast.While, ast.For, ast.Return,
    ast.Break, ast.Continue, ast.Pass, ast.Raise, ast.Try, ast.Expr,
)
AT_TOP = (ast.FunctionDef, ast.ClassDef, ast.ImportFrom, ast.Assign)
EXPRESSIONS = (
    ast.Constant, ast.Name, ast.List, ast.Tuple, ast.Dict, ast.BinOp, ast.UnaryOp, ast.BoolOp, ast.Compare, ast.IfExp,
    ast.Call, ast.Attribute, ast.Subscript, ast.Slice, ast.ListComp, ast.JoinedStr, ast.FormattedValue, ast.Lambda,
)
PYTHONS_OWN = set("""
    len range enumerate zip min max sum abs sorted reversed int str bool list tuple dict set frozenset isinstance ord
    repr any all divmod Exception ValueError TypeError KeyError IndexError LookupError ZeroDivisionError
    ArithmeticError OverflowError RuntimeError NotImplementedError AttributeError StopIteration
""".split())
METHODS = set("""
    append clear copy count endswith extend find get index insert isalnum isalpha isdigit islower isspace isupper items
    join keys ljust lower lstrip partition pop remove replace reverse rfind rjust rpartition rsplit rstrip setdefault
    split splitlines startswith strip update upper values zfill bit_length
""".split())
DUNDERS = {"__init__", "__eq__", "__repr__", "__str__", "__len__"}
WORDS = re.compile(
    r"\b(type|typing|typing_extensions|enum|Enum|IntEnum|StrEnum|Flag|IntFlag|Generic|Protocol|ABC|ABCMeta|namedtuple"
    r"|NamedTuple|TypedDict|TYPE_CHECKING|abstractmethod)\b|dataclass|overload|contextmanager"
)


def nodes_of(path, kinds):
    return [node for node in ast.walk(ast.parse(path.read_text())) if isinstance(node, kinds)]


def bound_names(path):
    """All names that a file binds inside its functions, and the parameters."""
    names = [node.arg for node in nodes_of(path, ast.arg)]
    return names + [node.id for node in nodes_of(path, ast.Name) if isinstance(node.ctx, ast.Store)]


def imported_names(path):
    return [alias.name for node in nodes_of(path, ast.ImportFrom) for alias in node.names]


def defined_names(path):
    top = ast.parse(path.read_text()).body
    names = [node.name for node in top if isinstance(node, (ast.FunctionDef, ast.ClassDef))]
    return names + [target.id for node in top if isinstance(node, ast.Assign) for target in node.targets]


def own_methods():
    classes = [node for path in FILES for node in nodes_of(path, ast.ClassDef)]
    return {part.name for node in classes for part in node.body if isinstance(part, ast.FunctionDef)}


def drawn_from(path):
    return {node.module.rpartition(".")[2] for node in nodes_of(path, ast.ImportFrom)}


def values_of_objects():
    stored = [node for path in FILES for node in nodes_of(path, ast.Attribute) if isinstance(node.ctx, ast.Store)]
    return {node.attr for node in stored}


def calls_of(path, names):
    """The calls of these names of Python's own, each with the node in which it stands."""
    for outer in nodes_of(path, ast.AST):
        for node in ast.iter_child_nodes(outer):
            if isinstance(node, ast.Call) and isinstance(node.func, ast.Name) and node.func.id in names:
                yield node, outer


def is_call_of(node, names):
    return isinstance(node, ast.Call) and isinstance(node.func, ast.Name) and node.func.id in names


class LanguageTest(unittest.TestCase):
    def check_each(self, check):
        self.assertIn("ladders.py", [path.name for path in FILES])
        for path in FILES:
            with self.subTest(path.name):
                check(path)

    def test_files_and_signs(self):
        others = [path.name for path in PACKAGE.iterdir() if path not in FILES and path.name != "__pycache__"]
        self.assertEqual(others, [])
        def check(path):
            text = path.read_bytes().decode("ascii")
            self.assertRegex(path.name, r"\A([a-z][a-z0-9_]*|__init__|__main__)\.py\Z")
            self.assertTrue(all(sign == "\n" or " " <= sign <= "~" for sign in text))
            self.assertLessEqual(len(text.splitlines()), 400)
            self.assertLessEqual(max(map(len, text.splitlines())), 120)
            self.assertIsNone(WORDS.search(text))
        self.check_each(check)

    def test_sizes_and_forms_of_functions(self):
        def check(path):
            for node in nodes_of(path, ast.FunctionDef):
                self.assertLessEqual(node.end_lineno - node.lineno + 1, 40, node.name)
                self.assertEqual(node.decorator_list, [])
                form = node.args
                self.assertFalse(form.vararg or form.kwarg or form.kwonlyargs or form.posonlyargs, node.name)
        self.check_each(check)

    def test_statements_and_expressions(self):
        def check(path):
            tree = ast.parse(path.read_text())
            self.assertTrue(all(isinstance(node, AT_TOP) for node in tree.body[1:]))
            for node in ast.walk(tree):
                if isinstance(node, ast.stmt):
                    self.assertIsInstance(node, STATEMENTS)
                    self.assertFalse(isinstance(node, (ast.For, ast.While)) and node.orelse)
                    self.assertFalse(isinstance(node, ast.Assign) and len(node.targets) > 1)
                if isinstance(node, ast.expr):
                    self.assertIsInstance(node, EXPRESSIONS, ast.dump(node))
                if isinstance(node, ast.Expr) and node is not tree.body[0]:
                    self.assertIsInstance(node.value, ast.Call)
                if isinstance(node, ast.ListComp):
                    self.assertEqual(len(node.generators), 1)
                    self.assertLessEqual(len(node.generators[0].ifs), 1)
                if isinstance(node, ast.Constant):
                    self.assertNotIsInstance(node.value, (float, complex, bytes))
                if isinstance(node, ast.BinOp):
                    self.assertNotIsInstance(node.op, (ast.Div, ast.MatMult))
        self.check_each(check)

    def test_is_stands_beside_plain_values(self):
        def check(path):
            for node in nodes_of(path, ast.Compare):
                for sign, right in zip(node.ops, node.comparators):
                    if isinstance(sign, (ast.Is, ast.IsNot)):
                        self.assertIn(getattr(right, "value", "other"), (None, True, False))
        self.check_each(check)

    def test_names(self):
        def check(path):
            own = set(dir(builtins))
            for name in bound_names(path) + defined_names(path):
                self.assertRegex(name, r"\A[A-Za-z][A-Za-z0-9_]*\Z")
                self.assertNotIn(name, own)
            for name in bound_names(path):
                self.assertNotIn(name, imported_names(path))
            for node in nodes_of(path, ast.Name):
                self.assertFalse(node.id in own and node.id not in PYTHONS_OWN, node.id)
            for node in nodes_of(path, ast.FunctionDef):
                self.assertTrue(node.name in DUNDERS or not node.name.startswith("_"))
        self.check_each(check)

    def test_methods(self):
        def check(path):
            for node in nodes_of(path, ast.Call):
                if isinstance(node.func, ast.Attribute):
                    self.assertIn(node.func.attr, METHODS | own_methods())
        self.check_each(check)

    def test_values_of_objects(self):
        own = {name for kind in (str, int, list, tuple, dict, set, bytes) for name in dir(kind)}
        self.assertEqual(values_of_objects() & own_methods(), set())
        self.assertEqual(values_of_objects() & own, set())
        self.assertEqual(own_methods() & own - DUNDERS, set())

    def test_no_annotations(self):
        def check(path):
            for node in nodes_of(path, ast.arg):
                self.assertIsNone(node.annotation)
            for node in nodes_of(path, ast.FunctionDef):
                self.assertIsNone(node.returns)
        self.check_each(check)

    def test_sets_are_not_kept(self):
        def check(path):
            for node, outer in calls_of(path, ("set", "frozenset")):
                self.assertTrue(is_call_of(outer, ("sorted", "len")) or isinstance(outer, ast.Compare), ast.dump(outer))
        self.check_each(check)

    def test_walked_at_once(self):
        takers = ("list", "tuple", "dict", "sorted", "sum", "any", "all", "enumerate", "zip", "min", "max")
        def check(path):
            for node, outer in calls_of(path, ("zip", "enumerate", "reversed", "range")):
                walked = isinstance(outer, (ast.For, ast.comprehension)) and outer.iter is node
                taken = is_call_of(outer, takers) and outer.args[0] is node
                self.assertTrue(walked or taken, ast.dump(outer))
        self.check_each(check)

    def test_errors_are_made_on_the_spot(self):
        refusals = defined_names(PACKAGE / "errors.py")
        def check(path):
            for node in nodes_of(path, ast.Raise):
                self.assertTrue(is_call_of(node.exc, refusals), ast.dump(node))
            for node in nodes_of(path, ast.ExceptHandler):
                self.assertIn(getattr(node.type, "id", None), refusals + ["KeyError", "ZeroDivisionError"])
        self.check_each(check)

    def test_numbers_and_texts(self):
        def check(path):
            for node in nodes_of(path, ast.Constant):
                self.assertNotIn("%", str(node.value))
            for node in nodes_of(path, ast.BinOp):
                self.assertNotIsInstance(node.op, ast.Pow)
            for node in nodes_of(path, ast.FormattedValue):
                self.assertIsInstance(node.value, ast.Name)
                self.assertIsNone(node.format_spec)
        self.check_each(check)

    def test_imports(self):
        def check(path):
            self.assertEqual(nodes_of(path, ast.Import), [])
            for node in nodes_of(path, ast.ImportFrom):
                self.assertEqual((node.level, node.module.partition(".")[0]), (0, "ladderhall"))
                for alias in node.names:
                    self.assertIsNone(alias.asname)
                    self.assertIn(alias.name, defined_names(PACKAGE / (node.module.rpartition(".")[2] + ".py")))
        self.check_each(check)

    def test_no_two_files_draw_from_one_another(self):
        waiting = {path.stem: drawn_from(path) for path in FILES}
        while waiting:
            free = [name for name, drawn in waiting.items() if not drawn & set(waiting)]
            self.assertTrue(free, waiting)
            for name in free:
                waiting.pop(name)
