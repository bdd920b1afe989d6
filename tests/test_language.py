"""The package keeps to the part of Python that is agreed on: its files are held against the rules L1 to L28.

Where a rule allows more than the package needs, the check is narrower and allows nothing of it: no annotations, no
`__main__.py`, no methods with two underscores but `__init__`, no folders in the package, and of Python's own errors
only those are taken that may be taken anywhere.
"""

import ast
import builtins
import os
import re
import tokenize
import unittest

NAME = "notchcodes"
PACKAGE = os.path.join(os.path.dirname(os.path.dirname(os.path.abspath(__file__))), NAME)

STATEMENTS = (ast.Assign, ast.AugAssign, ast.If, ast.While, ast.For, ast.Return, ast.Break, ast.Continue, ast.Pass,
              ast.Raise, ast.Try, ast.Expr, ast.FunctionDef, ast.ClassDef, ast.ImportFrom)
EXPRESSIONS = (ast.Constant, ast.List, ast.Tuple, ast.Dict, ast.Set, ast.BinOp, ast.UnaryOp, ast.BoolOp, ast.Compare,
               ast.IfExp, ast.Call, ast.Attribute, ast.Subscript, ast.Slice, ast.ListComp, ast.JoinedStr,
               ast.FormattedValue, ast.Name, ast.Lambda)
CALLED = set("""len range enumerate zip min max sum abs sorted reversed int str bool list tuple dict set frozenset
    isinstance ord repr any all divmod""".split())
ERRORS = set("""Exception ValueError TypeError KeyError IndexError LookupError ZeroDivisionError ArithmeticError
    OverflowError RuntimeError NotImplementedError AttributeError StopIteration""".split())
TAKEN_ANYWHERE = {"KeyError", "ZeroDivisionError", "StopIteration"}
METHODS = set("""append clear copy count endswith extend find get index insert isalnum isalpha isdigit islower isspace
    isupper items join keys ljust lower lstrip partition pop remove replace reverse rfind rjust rpartition rsplit
    rstrip setdefault split splitlines startswith strip update upper values zfill bit_length""".split())
CHANGING = set("append clear extend insert pop remove reverse setdefault update".split())
READING = set("get copy count index items keys values".split())
KEYWORDS = {"sorted": {"key", "reverse"}, "min": {"key", "default"}, "max": {"key", "default"}, "sum": {"start"},
            "enumerate": {"start"}, "zip": {"strict"}}
KEYS = {"len", "int", "str", "abs", "sum", "min", "max", "tuple"}
WALKED = {"zip", "enumerate", "reversed", "range"}
WALKED_METHODS = {"items", "keys", "values"}
WALKERS = {"list", "tuple", "dict", "sorted", "sum", "any", "all", "enumerate", "zip"}
KINDS = {"int", "str", "bool", "list", "tuple", "dict"}
NAMES_NOT_USED = set("""attrgetter breakpoint builtins compile copyright credits delattr dir eval exec exit gc getattr
    globals hasattr help id importlib license locals methodcaller os quit setattr super type vars sys
    __name__""".split())
NOWHERE = set("register mro elements open input version_info with_traceback add_note format format_map".split())
FRAMES = re.compile("^(f|tb|co|gi|cr|ag)_[a-z]+$")
WORDS = """type|typing|typing_extensions|enum|Enum|IntEnum|StrEnum|Flag|IntFlag|Generic|Protocol|ABC|ABCMeta|namedtuple
    |NamedTuple|TypedDict|TYPE_CHECKING|abstractmethod""".replace("\n", "").replace(" ", "")
WORDS_NOT_USED = re.compile(r"\b(%s)\b|dataclass|overload|contextmanager" % WORDS)
FILES_NOT_USED = re.compile(r"^(test|tests|testing|test_.*|site|conftest|sitecustomize|usercustomize|%s)$" % WORDS)
OWN_OF_PYTHON = {name for kind in (str, int, list, dict, set, frozenset, bytes, tuple) for name in dir(kind)}
VALUES_ALLOWED = set("count index title find get join lower upper split strip copy add".split())


class Source:
    """A file of the package: its tree, what stands above each part of it, and the names it binds."""

    def __init__(self, file, text):
        self.file = file
        self.text = text
        self.tree = ast.parse(text)
        self.above = {}
        for node in ast.walk(self.tree):
            for part in ast.iter_child_nodes(node):
                self.above[part] = node
        self.functions = [node.name for node in self.tree.body if isinstance(node, ast.FunctionDef)]
        self.classes = {node.name: node for node in ast.walk(self.tree) if isinstance(node, ast.ClassDef)}
        self.assigned = {node.targets[0].id: node.value for node in self.tree.body
                         if isinstance(node, ast.Assign) and isinstance(node.targets[0], ast.Name)}
        self.imported = [alias.asname or alias.name for node in self.of(ast.ImportFrom) for alias in node.names]
        self.bound = set(self.bound_names())

    def of(self, *kinds):
        return [node for node in ast.walk(self.tree) if isinstance(node, kinds)]

    def bound_names(self):
        for node in ast.walk(self.tree):
            if isinstance(node, (ast.FunctionDef, ast.ClassDef)):
                yield node.name
            elif isinstance(node, ast.arg):
                yield node.arg
            elif isinstance(node, ast.Name) and isinstance(node.ctx, ast.Store):
                yield node.id
            elif isinstance(node, ast.ExceptHandler) and node.name:
                yield node.name
            elif isinstance(node, ast.alias):
                yield node.asname or node.name

    def within_function(self, node):
        while node in self.above:
            node = self.above[node]
            if isinstance(node, (ast.FunctionDef, ast.Lambda)):
                return True
        return False

    def is_called(self, node):
        above = self.above[node]
        return isinstance(above, ast.Call) and above.func is node


def called_name(node):
    return node.func.id if isinstance(node, ast.Call) and isinstance(node.func, ast.Name) else None


def called_method(node):
    return node.func.attr if isinstance(node, ast.Call) and isinstance(node.func, ast.Attribute) else None


def is_plain(node, functions):
    """A plain value of a file's top."""
    if isinstance(node, ast.UnaryOp) and isinstance(node.op, ast.USub):
        node = node.operand
    if isinstance(node, ast.Constant):
        return isinstance(node.value, (int, str, type(None)))
    if isinstance(node, (ast.List, ast.Tuple)):
        return all(is_plain(part, functions) for part in node.elts)
    if isinstance(node, ast.Dict):
        return all(is_plain(part, functions) for part in node.keys + node.values)
    return isinstance(node, ast.Name) and node.id in functions


class Rules:
    """Goes through the files of a package and says which rule is broken where."""

    def __init__(self, files):
        self.found = []
        self.sources = []
        for file, text in files.items():
            try:
                self.sources.append(Source(file, text))
            except SyntaxError:
                self.found.append("L1 %s" % file)
        self.methods = {part.name for source in self.sources for node in source.classes.values() for part in node.body
                        if isinstance(part, ast.FunctionDef)}
        self.values = {node.attr for source in self.sources for node in source.of(ast.Attribute)
                       if isinstance(node.ctx, ast.Store)}
        self.classes = {name for source in self.sources for name in source.classes}
        for source in self.sources:
            for part in (self.files, self.imports, self.tops, self.functions, self.class_forms, self.statements,
                         self.expressions, self.names, self.sizes, self.top_values, self.attributes, self.class_uses,
                         self.errors, self.python_calls, self.walks, self.sets, self.texts):
                part(source)
        self.circles()

    def say(self, rule, source, node=None):
        self.found.append("%s %s:%s" % (rule, source.file, getattr(node, "lineno", "")))

    def must(self, holds, rule, source, node=None):
        if not holds:
            self.say(rule, source, node)

    def files(self, source):
        stem = source.file[:-3]
        self.must(re.fullmatch(r"[a-z][a-z0-9_]*\.py|__init__\.py", source.file), "L1", source)
        python_has = hasattr(builtins, stem) and stem != "__init__"
        self.must(not python_has and not FILES_NOT_USED.match(stem), "L14", source)
        self.must(re.fullmatch(r"[ -~\n]*", source.text), "L14", source)

    def imports(self, source):
        for node in source.of(ast.Import):
            self.say("L2", source, node)
        for node in source.of(ast.ImportFrom):
            self.must(node in source.tree.body and node.level == 0, "L2", source, node)
            if node.module == "__future__":
                continue
            drawn = [other for other in self.sources if node.module == "%s.%s" % (NAME, other.file[:-3])]
            self.must(drawn, "L2", source, node)
            for other in drawn:
                defined = set(other.functions) | set(other.classes) | set(other.assigned)
                self.must({alias.name for alias in node.names} <= defined, "L16", source, node)
        if source.file == "__init__.py":
            self.must(not source.bound, "L16", source)

    def circles(self):
        drawn = {source.file: {node.module.split(".")[-1] + ".py" for node in source.of(ast.ImportFrom) if node.module}
                 for source in self.sources}
        while drawn:
            ready = [file for file in drawn if not drawn[file] & set(drawn)]
            if not ready:
                self.found.append("L16 files draw from one another")
                return
            for file in ready:
                del drawn[file]

    def tops(self, source):
        functions = []
        for at, node in enumerate(source.tree.body):
            if isinstance(node, ast.Expr):
                self.must(at == 0 and isinstance(node.value, ast.Constant), "L3", source, node)
            elif isinstance(node, ast.Assign):
                self.must(is_plain(node.value, functions), "L3", source, node)
            elif isinstance(node, ast.FunctionDef):
                functions.append(node.name)
            else:
                self.must(isinstance(node, (ast.ImportFrom, ast.ClassDef)), "L3", source, node)
        bound = source.functions + list(source.classes) + source.imported
        bound += [node.targets[0].id for node in source.tree.body
                  if isinstance(node, ast.Assign) and isinstance(node.targets[0], ast.Name)]
        self.must(len(bound) == len(set(bound)), "L15", source)

    def functions(self, source):
        for node in source.of(ast.FunctionDef, ast.ClassDef):
            self.must(not node.decorator_list, "L4", source, node)
        for node in source.of(ast.arguments):
            self.must(not (node.vararg or node.kwarg or node.kwonlyargs or node.posonlyargs), "L4", source, node)
            self.must(all(isinstance(value, ast.Constant) for value in node.defaults), "L4", source, node)
        for node in source.of(ast.FunctionDef):
            self.must(node.returns is None, "L21", source, node)
        for node in source.of(ast.arg):
            self.must(node.annotation is None, "L21", source, node)
        lambdas = [(node.lineno, [arg.arg for arg in node.args.args]) for node in source.of(ast.Lambda)]
        self.must(all(lambdas.count(one) == 1 for one in lambdas), "L13", source)

    def class_forms(self, source):
        for node in source.classes.values():
            self.must(node in source.tree.body, "L15", source, node)
            self.must(len(node.bases) <= 1 and not node.keywords, "L5", source, node)
            bases = [base.id if isinstance(base, ast.Name) else "" for base in node.bases]
            self.must(set(bases) <= self.classes | ERRORS, "L5", source, node)
            self.must(not set(bases) & {"StopIteration", "AttributeError"}, "L18", source, node)
            self.must(all(isinstance(part, ast.FunctionDef) for part in node.body), "L5", source, node)
            names = [part.name for part in node.body if isinstance(part, ast.FunctionDef)]
            self.must(len(names) == len(set(names)), "L18", source, node)
            for part in node.body:
                if isinstance(part, ast.FunctionDef) and part.name.startswith("__"):
                    self.must(part.name == "__init__", "L28", source, part)
                    self.must(not any(isinstance(inner, ast.Return) for inner in ast.walk(part)), "L28", source, part)

    def statements(self, source):
        for node in source.of(ast.stmt):
            self.must(isinstance(node, STATEMENTS), "L6", source, node)
        for node in source.of(ast.Assign):
            self.must(len(node.targets) == 1, "L6", source, node)
        for node in source.of(ast.For, ast.While):
            self.must(not node.orelse, "L6", source, node)
        for node in source.of(ast.Try):
            self.must(not node.finalbody, "L6", source, node)
        for node in source.of(ast.Expr):
            doc = isinstance(node.value, ast.Constant) and isinstance(node.value.value, str)
            self.must(doc or isinstance(node.value, ast.Call), "L6", source, node)

    def expressions(self, source):
        for node in source.of(ast.expr):
            self.must(isinstance(node, EXPRESSIONS), "L7", source, node)
        for node in source.of(ast.ListComp):
            loop = node.generators
            self.must(len(loop) == 1 and len(loop[0].ifs) <= 1 and not loop[0].is_async, "L7", source, node)
        for node in source.of(ast.Div, ast.MatMult, ast.Starred):
            self.say("L7", source, node)
        for node in source.of(ast.Constant):
            self.must(isinstance(node.value, (int, str, type(None))), "L7", source, node)
        for node in source.of(ast.FormattedValue):
            plain = isinstance(node.value, ast.Name) and node.format_spec is None and node.conversion in (-1, ord("r"))
            self.must(plain, "L7", source, node)
        for node in source.of(ast.Compare):
            for sign, side in zip(node.ops, node.comparators):
                if isinstance(sign, (ast.Is, ast.IsNot)):
                    plain = isinstance(side, ast.Constant) and (side.value is None or isinstance(side.value, bool))
                    self.must(plain, "L20", source, node)
        for node in source.of(ast.BinOp, ast.AugAssign):
            if isinstance(node.op, ast.Pow):
                power = node.right if isinstance(node, ast.BinOp) else node.value
                self.must(isinstance(power, ast.Constant) and 0 <= power.value <= 64, "L27", source, node)

    def names(self, source):
        for name in source.bound - {"__init__", "annotations"}:
            self.must(re.fullmatch("[A-Za-z][A-Za-z0-9_]*", name), "L12", source)
        locals_bound = {node.arg for node in source.of(ast.arg)}
        locals_bound |= {node.id for node in source.of(ast.Name)
                         if isinstance(node.ctx, ast.Store) and source.within_function(node)}
        for name in locals_bound:
            taken = hasattr(builtins, name) or name in source.classes or name in source.imported
            self.must(not taken and name not in source.assigned, "L15", source)
        for name in source.functions + list(source.classes) + list(source.assigned):
            self.must(not hasattr(builtins, name), "L8", source)
        used = {node.id for node in source.of(ast.Name)}
        self.must(used <= source.bound | CALLED | ERRORS, "L8", source)
        every = used | source.bound
        self.must(not every & (NAMES_NOT_USED | NOWHERE), "L17", source)
        every |= {node.attr for node in source.of(ast.Attribute)}
        self.must(not every & NOWHERE and not any(FRAMES.match(name) for name in every), "L17", source)
        self.must(not WORDS_NOT_USED.search(source.text), "L17", source)

    def sizes(self, source):
        lines = source.text.split("\n")
        self.must(len(lines) <= 401 and max(len(line) for line in lines) <= 120, "L10", source)
        for node in source.of(ast.FunctionDef):
            self.must(node.end_lineno - node.lineno < 40, "L10", source, node)

    def top_values(self, source):
        """Lists and dicts of a file's top are only read."""
        nested = (ast.List, ast.Dict)
        kept = {name for name, value in source.assigned.items() if isinstance(value, nested)}
        for value in source.assigned.values():
            inner = [part for part in ast.walk(value) if part is not value and isinstance(part, nested)]
            self.must(not (isinstance(value, nested + (ast.Tuple,)) and inner), "L15", source, value)
        for node in source.of(ast.Name):
            if node.id in kept and isinstance(node.ctx, ast.Load):
                self.must(self.only_read(source, node), "L15", source, node)

    def only_read(self, source, node):
        above = source.above[node]
        if isinstance(above, ast.Subscript):
            return above.value is node and isinstance(above.ctx, ast.Load)
        if isinstance(above, ast.Attribute):
            return above.attr in READING and source.is_called(above)
        if isinstance(above, (ast.For, ast.comprehension)):
            return above.iter is node
        return isinstance(above, ast.Compare) or called_name(above) in CALLED

    def attributes(self, source):
        for node in source.of(ast.Attribute):
            known = node.attr in self.methods | self.values | METHODS or node.attr == "__init__"
            self.must(known, "L25", source, node)
            if node.attr in self.methods | METHODS and node.attr not in self.values:
                self.must(source.is_called(node), "L25", source, node)
            if isinstance(node.ctx, ast.Store):
                held = isinstance(node.value, ast.Name)
                self.must(held and node.value.id not in self.classes | set(source.assigned), "L18", source, node)
                self.must(node.attr in VALUES_ALLOWED or node.attr not in OWN_OF_PYTHON | {"args"}, "L26", source, node)
        for node in source.classes.values():
            for part in node.body:
                if isinstance(part, ast.FunctionDef) and part.name != "__init__":
                    self.must(part.name not in OWN_OF_PYTHON - METHODS - {"add", "discard"}, "L26", source, part)
        self.must(not self.methods & self.values, "L18", source)

    def class_uses(self, source):
        """A class is called, is a base, or stands by isinstance, except or raise."""
        for node in source.of(ast.Name):
            if node.id in self.classes | ERRORS and isinstance(node.ctx, ast.Load):
                above = source.above[node]
                fine = isinstance(above, (ast.ClassDef, ast.ExceptHandler)) or source.is_called(node)
                fine = fine or called_name(above) == "isinstance"
                fine = fine or isinstance(above, ast.Attribute) and above.attr == "__init__"
                listed = isinstance(above, ast.Tuple)
                fine = fine or listed and isinstance(source.above[above], (ast.ExceptHandler, ast.Call))
                self.must(fine, "L18", source, node)

    def errors(self, source):
        for node in source.of(ast.ExceptHandler):
            kinds = node.type.elts if isinstance(node.type, ast.Tuple) else [node.type]
            for kind in kinds:
                fine = isinstance(kind, ast.Name) and kind.id in self.classes | TAKEN_ANYWHERE
                self.must(fine, "L19", source, node)
        for node in source.of(ast.Raise):
            self.must(called_name(node.exc) in self.classes | ERRORS, "L19", source, node)

    def python_calls(self, source):
        for node in source.of(ast.Name):
            if node.id in CALLED and node.id not in source.bound and not source.is_called(node):
                above = source.above[node]
                as_key = isinstance(above, ast.keyword) and above.arg == "key" and node.id in KEYS
                by_kind = called_name(above) == "isinstance" and node.id in KINDS
                by_kind = by_kind or isinstance(above, ast.Tuple) and called_name(source.above[above]) == "isinstance"
                self.must(as_key or by_kind, "L22", source, node)
        for node in source.of(ast.Call):
            named = {keyword.arg for keyword in node.keywords}
            name = called_name(node)
            if name in CALLED | ERRORS or called_method(node) in METHODS:
                self.must(named <= KEYWORDS.get(name, set()), "L22", source, node)
            for keyword in node.keywords:
                if keyword.arg in ("reverse", "strict"):
                    self.must(isinstance(keyword.value, ast.Constant), "L22", source, node)

    def walks(self, source):
        for node in source.of(ast.Call):
            own = called_method(node) in self.methods
            if called_name(node) in WALKED or called_method(node) in WALKED_METHODS and not own:
                self.must(self.walked_at_once(source, node), "L23", source, node)
        for node in source.of(ast.For):
            walked = node.iter
            heads = [walked]
            if called_name(walked) in WALKED - {"range"}:
                heads = walked.args
            elif called_method(walked) in WALKED_METHODS:
                heads = [walked.func.value]
            texts = {ast.dump(head) for head in heads if isinstance(head, (ast.Name, ast.Attribute, ast.Subscript))}
            for part in node.body:
                self.must(not self.changed_in(part) & texts, "L23", source, node)

    def walked_at_once(self, source, node):
        above = source.above[node]
        if isinstance(above, (ast.For, ast.comprehension)):
            return above.iter is node
        if called_name(above) in WALKERS:
            return above.args[0] is node or called_name(above) == "zip"
        if called_name(above) in ("min", "max"):
            return above.args == [node]
        return called_method(above) == "join" and isinstance(above.func.value, ast.Constant)

    def changed_in(self, part):
        """What a part changes, as it would stand if it were read."""
        changed = set()
        for node in ast.walk(part):
            if called_method(node) in CHANGING:
                changed.add(ast.dump(node.func.value))
            elif isinstance(node, ast.Subscript) and isinstance(node.ctx, ast.Store):
                changed.add(ast.dump(node.value))
            elif isinstance(node, ast.AugAssign):
                changed.add(ast.dump(node.target).replace("Store()", "Load()"))
        return changed

    def sets(self, source):
        for node in source.of(ast.Set):
            self.must(source.within_function(node), "L7", source, node)
            beside = source.above[node]
            asked = isinstance(beside, ast.Compare) and isinstance(beside.ops[0], (ast.In, ast.NotIn))
            self.must(asked or len(node.elts) < 3, "L13", source, node)
            self.must(self.set_stands(source, node), "L24", source, node)
        for node in source.of(ast.Call):
            if called_name(node) in ("set", "frozenset"):
                self.must(self.set_stands(source, node), "L24", source, node)

    def set_stands(self, source, node):
        above = source.above[node]
        while isinstance(above, ast.BinOp) and isinstance(above.op, (ast.Sub, ast.BitAnd, ast.BitOr, ast.BitXor)):
            node, above = above, source.above[above]
        if isinstance(above, ast.Compare):
            return isinstance(above.ops[0], (ast.In, ast.NotIn, ast.Eq, ast.NotEq))
        return called_name(above) in ("sorted", "len") and not above.keywords

    def texts(self, source):
        """Texts as they are written: signs, escapes, and numbers that are too long."""
        rows = iter(source.text.splitlines(keepends=True))
        for token in tokenize.generate_tokens(lambda: next(rows, "")):
            if token.type == tokenize.STRING:
                self.must("%" not in token.string, "L27", source)
                self.must(not re.search(r"\\[^nt\\'\"]", token.string.replace("\\\\", "")), "L27", source)
                self.must(re.match("[fF]?['\"]", token.string), "L7", source)
            elif token.type == tokenize.NUMBER:
                self.must(len(token.string) <= 900, "L27", source)
        self.must("chr" not in {node.id for node in source.of(ast.Name)}, "L27", source)


def broken(files):
    return sorted(set(Rules(files).found))


def package_files():
    files = {}
    for name in sorted(os.listdir(PACKAGE)):
        # Left by a Python that ran the program, and not among the project's files.
        if name != "__pycache__":
            with open(os.path.join(PACKAGE, name), encoding="utf-8", newline="") as file:
                files[name] = file.read()
    return files


class Package(unittest.TestCase):
    def test_keeps_to_every_rule(self):
        self.assertEqual(broken(package_files()), [])

    def test_files_that_are_told(self):
        files = package_files()
        self.assertIn("__init__.py", files)
        self.assertIn("answers", Source("field.py", files["field.py"]).functions)


# What breaks a rule, each as a file of its own; behind it the rule that's named for it.
BREACHES = [
    ("import os\n", "L2"), ("from os import path\n", "L2"), ("from notchcodes import other\n", "L2"),
    ("from .other import thing\n", "L2"),
    ("def f():\n    from notchcodes.other import thing\n    return thing()\n", "L2"),
    ("f = len([1])\n", "L3"),
    ("print(1)\n", "L3"),
    ("if True:\n    x = 1\n", "L3"),
    ("x = [k for k in (1, 2)]\n", "L3"),
    ("def f(*rest):\n    return rest\n", "L4"), ("def f(**rest):\n    return rest\n", "L4"),
    ("def f(x=[]):\n    return x\n", "L4"), ("def g(f):\n    return f\n\n\n@g\ndef f():\n    return 1\n", "L4"),
    ("class A:\n    x = 1\n", "L5"), ("class A(list):\n    def f(self):\n        return 1\n", "L5"),
    ("def f(x):\n    assert x\n", "L6"),
    ("def f(x):\n    del x\n", "L6"),
    ("def f(x):\n    a = b = x\n    return a + b\n", "L6"),
    ("def f(x):\n    for k in x:\n        pass\n    else:\n        pass\n", "L6"), ("def f(x):\n    x\n", "L6"),
    ("def f(x):\n    yield x\n", "L7"), ("def f(x):\n    return x / 2\n", "L7"), ("def f(x):\n    return 1.5\n", "L7"),
    ("def f(x):\n    return sum(k for k in x)\n", "L7"), ("def f(x):\n    return [*x]\n", "L7"),
    ("def f(x):\n    return {k: 1 for k in x}\n", "L7"), ("def f(x):\n    return f\"{x + 1}\"\n", "L7"),
    ("def f(x):\n    return b\"a\"\n", "L7"), ("def f(x):\n    return [k for a in x for k in a]\n", "L7"),
    ("def f(x):\n    return map(f, x)\n", "L8"),
    ("def f(x):\n    print(x)\n", "L8"),
    ("def max(x):\n    return x\n", "L8"),
    ("def f(x):\n" + "    x += 1\n" * 40, "L10"), ("x = 1\n" + "#" * 121 + "\n", "L10"), ("#\n" * 401, "L10"),
    ("def f(x):\n    for _ in x:\n        return 1\n", "L12"), ("def _f(x):\n    return x\n", "L12"),
    ("def f(x):\n    y = {1, 2, 3}\n    return len(y)\n", "L13"),
    ("def f(x):\n    return g(lambda a: a, lambda a: 1)\n\n\ndef g(x, y):\n    return x\n", "L13"),
    ("# \xe4\n", "L14"), ("def f(x):\n\treturn x\n", "L14"),
    ("x = 1\nx = 2\n", "L15"), ("X = [[1], [2]]\n", "L15"), ("X = [1]\n\n\ndef f():\n    X.append(2)\n", "L15"),
    ("X = [1]\n\n\ndef f():\n    return X\n", "L15"), ("X = [1]\n\n\ndef f():\n    X[0] = 2\n", "L15"),
    ("def f(hash):\n    return hash\n", "L15"), ("def f(x):\n    next = x\n    return next\n", "L15"),
    ("from notchcodes.other import thing\n\n\ndef f(thing):\n    return thing\n", "L15"),
    ("from notchcodes.other import nothing\n", "L16"),
    ("from notchcodes.sample import f\n\n\ndef f():\n    return 1\n", "L16"),
    ("def f(x):\n    return x.f_back\n", "L17"), ("# a type\n", "L17"), ("def f(x):\n    return eval(x)\n", "L17"),
    ("# overloaded\n", "L17"), ("class A:\n    def mro(self):\n        return 1\n", "L17"),
    ("class A:\n    def f(self):\n        return 1\n\n\nX = (A)\n\n\ndef g():\n    return A\n", "L18"),
    ("class A:\n    def f(self):\n        self.g = 1\n\n    def g(self):\n        return 1\n", "L18"),
    ("class A(StopIteration):\n    def f(self):\n        return 1\n", "L18"),
    ("def f(x):\n    try:\n        return x[0]\n    except Exception:\n        return 1\n", "L19"),
    ("def f(x):\n    try:\n        return x[0]\n    except:\n        return 1\n", "L19"),
    ("def f(x):\n    try:\n        return f(x)\n    except ValueError:\n        return 1\n", "L19"),
    ("def f(x):\n    raise x\n", "L19"),
    ("def f(x):\n    return x is 1\n", "L20"),
    ("def f(x, y):\n    return x is y\n", "L20"),
    ("def f(x: int):\n    return x\n", "L21"), ("def f(x) -> int:\n    return x\n", "L21"),
    ("def f(x):\n    g = len\n    return g(x)\n", "L22"), ("def f(x):\n    return int(x, base=2)\n", "L22"),
    ("def f(x):\n    return sorted(x, key=repr)\n", "L22"), ("def f(x, y):\n    return sorted(x, reverse=y)\n", "L22"),
    ("def f(x):\n    y = range(x)\n    return y\n", "L23"), ("def f(x):\n    return zip(x, x)\n", "L23"),
    ("def f(x):\n    y = x.items()\n    return len(y)\n", "L23"),
    ("def f(x):\n    for k in x:\n        x.append(k)\n", "L23"),
    ("def f(x):\n    for k, v in enumerate(x):\n        x[k] = v + 1\n", "L23"),
    ("def f(x):\n    for k, v in x.items():\n        x.pop(k)\n", "L23"),
    ("def f(x):\n    return len(range(x))\n", "L23"),
    ("def f(x):\n    y = set(x)\n    return 1 in y\n", "L24"),
    ("def f(x):\n    for k in set(x):\n        return k\n", "L24"),
    ("def f(x):\n    return sorted(set(x), key=len)\n", "L24"), ("def f(x):\n    return list({1})\n", "L24"),
    ("def f(x):\n    x.sort()\n", "L25"),
    ("def f(x):\n    return x.encode()\n", "L25"),
    ("def f(x):\n    y = x.append\n    y(1)\n", "L25"),
    ("class A:\n    def f(self):\n        self.items = 1\n", "L26"),
    ("class A:\n    def encode(self):\n        return 1\n", "L26"),
    ("def f(x):\n    return 2 ** x\n", "L27"), ("def f(x):\n    return 2 ** 65\n", "L27"), ("X = \"1%\"\n", "L27"),
    ("X = \"\\x41\"\n", "L27"), ("def f(x):\n    return chr(x)\n", "L27"), ("X = 0x" + "1" * 900 + "\n", "L27"),
    ("class A:\n    def __init__(self):\n        return None\n", "L28"),
    ("class A:\n    def __len__(self):\n        return 1\n", "L28"),
]

OTHER = "\"\"\"Another file.\"\"\"\n\n\ndef thing():\n    return 1\n"
FINE = '''"""A file that keeps to the rules."""

from notchcodes.other import thing

ROWS = [1, 2, -3]
CALLS = {0: (1, 2), 1: (2, 3)}


class Refused(ValueError):
    def __init__(self, place):
        ValueError.__init__(self, "it's refused\\n")
        self.place = place


class Pile:
    def __init__(self, rows):
        self.rows = list(rows)

    def top(self):
        return self.rows[-1]


def refuse(place):
    raise Refused(place)


def f(rows, wide=1):
    pile = Pile(rows)
    for at, number in enumerate(ROWS):
        pile.rows.append(number + at + CALLS[1][0] + 3 ** 2)
    try:
        refuse(pile.top())
    except Refused as fault:
        return [fault.place, thing(), wide]
    doubled = [2 * number for number in rows if number in set(ROWS)]
    return sorted(doubled, key=lambda number: -number) + list(range(3)) + [len(set(rows) | set(doubled))]
'''


class Checks(unittest.TestCase):
    """The checks themselves: they see what breaks a rule, and nothing where none is broken."""

    def test_what_keeps_to_the_rules(self):
        self.assertEqual(broken({"sample.py": FINE, "other.py": OTHER, "__init__.py": "\"\"\"All.\"\"\"\n"}), [])

    def test_what_breaks_a_rule(self):
        for text, rule in BREACHES:
            found = broken({"sample.py": text, "other.py": OTHER})
            self.assertIn(rule, [line.split(" ")[0] for line in found], text)

    def test_file_names(self):
        for file, rule in (("Sample.py", "L1"), ("sample.txt", "L1"), ("len.py", "L14"), ("test_a.py", "L14"),
                           ("enum.py", "L14")):
            self.assertIn(rule, [line.split(" ")[0] for line in broken({file: "x = 1\n"})], file)

    def test_files_that_draw_from_one_another(self):
        one = "from notchcodes.two import g\n\n\ndef f():\n    return g()\n"
        two = "from notchcodes.one import f\n\n\ndef g():\n    return f()\n"
        self.assertIn("L16 files draw from one another", broken({"one.py": one, "two.py": two}))

    def test_every_rule_with_a_form_is_seen(self):
        # L1 has its own test; L9 and L11 show as names of L8 and as sets and walks of L23 and L24.
        seen = {rule for text, rule in BREACHES}
        self.assertEqual(seen, {"L%d" % rule for rule in range(2, 29)} - {"L9", "L11"})


if __name__ == "__main__":
    unittest.main()
