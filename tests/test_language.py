"""The package keeps to the part of Python that is agreed on, as far as its files show it."""

import ast
import builtins
import os
import re
import unittest

PACKAGE = os.path.join(os.path.dirname(os.path.dirname(os.path.abspath(__file__))), "notchcodes")

STATEMENTS = (ast.Assign, ast.AugAssign, ast.If, ast.While, ast.For, ast.Return, ast.Break, ast.Continue, ast.Pass,
              ast.Raise, ast.Try, ast.Expr, ast.FunctionDef, ast.ClassDef, ast.ImportFrom)
EXPRESSIONS = (ast.Constant, ast.List, ast.Tuple, ast.Dict, ast.Set, ast.BinOp, ast.UnaryOp, ast.BoolOp, ast.Compare,
               ast.IfExp, ast.Call, ast.Attribute, ast.Subscript, ast.Slice, ast.ListComp, ast.JoinedStr,
               ast.FormattedValue, ast.Name, ast.Lambda)
FUNCTIONS = set("""len range enumerate zip min max sum abs sorted reversed int str bool list tuple dict set frozenset
    isinstance ord repr any all divmod Exception ValueError TypeError KeyError IndexError LookupError
    ZeroDivisionError ArithmeticError OverflowError RuntimeError NotImplementedError AttributeError
    StopIteration""".split())
METHODS = set("""append clear copy count endswith extend find get index insert isalnum isalpha isdigit islower isspace
    isupper items join keys ljust lower lstrip partition pop remove replace reverse rfind rjust rpartition rsplit
    rstrip setdefault split splitlines startswith strip update upper values zfill bit_length __init__""".split())
KEYWORDS = {"sorted": {"key", "reverse"}, "min": {"key", "default"}, "max": {"key", "default"}, "sum": {"start"},
            "enumerate": {"start"}, "zip": {"strict"}}
WORDS_NOT_USED = re.compile(r"\b(type|typing|typing_extensions|enum|Enum|IntEnum|StrEnum|Flag|IntFlag|Generic|Protocol"
                            r"|ABC|ABCMeta|namedtuple|NamedTuple|TypedDict|TYPE_CHECKING|abstractmethod)\b"
                            r"|dataclass|overload|contextmanager")
OWN_NAMES_OF_PYTHON = {name for kind in (str, int, list, dict, set, bytes, tuple) for name in vars(kind)}


def sources():
    for name in sorted(os.listdir(PACKAGE)):
        if name != "__pycache__":
            with open(os.path.join(PACKAGE, name), encoding="utf-8") as file:
                yield name, file.read()


def bound_names(tree):
    """All names that a file gives to something."""
    for node in ast.walk(tree):
        if isinstance(node, (ast.FunctionDef, ast.ClassDef)):
            yield node.name
        elif isinstance(node, ast.arg):
            yield node.arg
        elif isinstance(node, ast.Name) and isinstance(node.ctx, ast.Store):
            yield node.id
        elif isinstance(node, ast.ExceptHandler) and node.name:
            yield node.name
        elif isinstance(node, ast.alias):
            yield node.asname or node.name


class Language(unittest.TestCase):
    def setUp(self):
        self.files = dict(sources())
        self.trees = {name: ast.parse(source) for name, source in self.files.items()}

    def nodes(self, *kinds):
        for name, tree in self.trees.items():
            for node in ast.walk(tree):
                if isinstance(node, kinds):
                    yield "%s:%s" % (name, getattr(node, "lineno", "")), node

    def test_files(self):
        self.assertIn("__init__.py", self.files)
        self.assertIn("field.py", self.files)
        for name in self.files:
            if name != "__init__.py":
                self.assertRegex(name, r"^[a-z][a-z0-9_]*\.py$")
                self.assertFalse(hasattr(builtins, name[:-3]), name)

    def test_signs_and_sizes(self):
        for name, source in self.files.items():
            lines = source.split("\n")
            self.assertLessEqual(len(lines), 400, name)
            self.assertRegex(source, r"\A[ -~\n]*\Z", name)
            self.assertLessEqual(max(len(line) for line in lines), 120, name)
            self.assertIsNone(WORDS_NOT_USED.search(source), name)
        for where, node in self.nodes(ast.FunctionDef):
            self.assertLessEqual(node.end_lineno - node.lineno + 1, 40, where)

    def test_statements_and_expressions(self):
        for where, node in self.nodes(ast.stmt):
            self.assertIsInstance(node, STATEMENTS, where)
        for where, node in self.nodes(ast.expr):
            self.assertIsInstance(node, EXPRESSIONS, where)
        for where, node in self.nodes(ast.Assign):
            self.assertEqual(len(node.targets), 1, where)
        for where, node in self.nodes(ast.For, ast.While):
            self.assertEqual(node.orelse, [], where)
        for where, node in self.nodes(ast.Try):
            self.assertEqual(node.finalbody, [], where)
        for where, node in self.nodes(ast.ListComp):
            self.assertEqual(len(node.generators), 1, where)
            self.assertLessEqual(len(node.generators[0].ifs), 1, where)
        for where, node in self.nodes(ast.Div, ast.MatMult, ast.Starred):
            self.fail(where)
        for where, node in self.nodes(ast.Constant):
            self.assertIsInstance(node.value, (int, str, type(None)), where)

    def test_functions(self):
        for where, node in self.nodes(ast.FunctionDef, ast.ClassDef):
            self.assertEqual(node.decorator_list, [], where)
        for where, node in self.nodes(ast.arguments):
            self.assertEqual((node.vararg, node.kwarg, node.kwonlyargs, node.posonlyargs), (None, None, [], []), where)
        for where, node in self.nodes(ast.ClassDef):
            self.assertLessEqual(len(node.bases), 1, where)
            for part in node.body:
                self.assertIsInstance(part, ast.FunctionDef, where)
        for where, node in self.nodes(ast.Raise):
            self.assertIsInstance(node.exc, ast.Call, where)
            self.assertIsInstance(node.exc.func, ast.Name, where)

    def test_tops(self):
        for name, tree in self.trees.items():
            bound = []
            for at, node in enumerate(tree.body):
                if isinstance(node, ast.Expr):
                    self.assertEqual(at, 0, name)
                    self.assertIsInstance(node.value, ast.Constant, name)
                elif isinstance(node, ast.Assign):
                    bound.append(node.targets[0].id)
                elif isinstance(node, (ast.FunctionDef, ast.ClassDef)):
                    bound.append(node.name)
                else:
                    self.assertIsInstance(node, ast.ImportFrom, name)
            self.assertEqual(len(bound), len(set(bound)), name)

    def test_imports(self):
        drawn = {}
        for name, tree in self.trees.items():
            drawn[name] = []
            for node in ast.walk(tree):
                if isinstance(node, ast.ImportFrom):
                    self.assertEqual(node.level, 0)
                    package, module = node.module.split(".")
                    self.assertEqual(package, "notchcodes")
                    drawn[name].append(module + ".py")
                    defined = {part.name for part in self.trees[module + ".py"].body if hasattr(part, "name")}
                    self.assertLessEqual({alias.name for alias in node.names}, defined)
        self.assertEqual(drawn["__init__.py"], [])
        while drawn:
            ready = [name for name in drawn if not set(drawn[name]) & set(drawn)]
            self.assertTrue(ready, "files draw from one another")
            for name in ready:
                del drawn[name]

    def test_names(self):
        for name, tree in self.trees.items():
            for bound in bound_names(tree):
                if bound != "__init__":
                    self.assertRegex(bound, r"^[A-Za-z][A-Za-z0-9_]*$")
                    self.assertFalse(hasattr(builtins, bound), "%s in %s" % (bound, name))
            taken = set(bound_names(tree))
            for node in ast.walk(tree):
                if isinstance(node, ast.Name) and node.id not in taken:
                    self.assertIn(node.id, FUNCTIONS, name)

    def test_methods_and_values(self):
        methods = {part.name for where, node in self.nodes(ast.ClassDef) for part in node.body}
        values = {node.attr for where, node in self.nodes(ast.Attribute) if isinstance(node.ctx, ast.Store)}
        self.assertEqual(methods & values, set())
        self.assertEqual((methods | values) & OWN_NAMES_OF_PYTHON, {"__init__"})
        called = {id(node.func) for where, node in self.nodes(ast.Call)}
        for where, node in self.nodes(ast.Attribute):
            self.assertIn(node.attr, methods | values | METHODS, where)
            if node.attr in methods | METHODS:
                self.assertIn(id(node), called, where)

    def test_keywords(self):
        for where, node in self.nodes(ast.Call):
            allowed = KEYWORDS.get(getattr(node.func, "id", ""), set())
            self.assertLessEqual({keyword.arg for keyword in node.keywords}, allowed, where)

    def test_comparisons_by_is(self):
        for where, node in self.nodes(ast.Compare):
            if any(isinstance(sign, (ast.Is, ast.IsNot)) for sign in node.ops):
                self.assertIsInstance(node.comparators[0], ast.Constant, where)

    def test_powers_have_a_written_exponent(self):
        for where, node in self.nodes(ast.BinOp):
            if isinstance(node.op, ast.Pow):
                self.assertIsInstance(node.right, ast.Constant, where)


if __name__ == "__main__":
    unittest.main()
