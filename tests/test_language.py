"""Those rules of the language that can be read off the package's files one by one."""

import ast
import builtins
import pathlib
import re
import unittest
import warnings

import tiesums

FOLDER = pathlib.Path(tiesums.__file__).parent
FILES = sorted(path for path in FOLDER.rglob("*") if path.is_file() and "__pycache__" not in path.parts)

LIBRARY = {
    "heapq": "heappush heappop heapify heapreplace heappushpop", "math": "gcd lcm isqrt comb perm factorial",
    "itertools": "product combinations permutations chain accumulate pairwise islice zip_longest",
    "collections": "defaultdict",
}
BUILTINS = """len range enumerate zip min max sum abs sorted reversed int str bool bytes list tuple dict set frozenset
isinstance ord repr any all divmod pow getattr hasattr setattr iter next map super property staticmethod classmethod
Exception ValueError TypeError KeyError IndexError LookupError ZeroDivisionError ArithmeticError OverflowError
RuntimeError NotImplementedError AttributeError StopIteration NotImplemented object""".split()
METHODS = """append clear copy count endswith extend find get index insert isalnum isalpha isdigit islower isspace
isupper items join keys ljust lower lstrip partition pop remove replace reverse rfind rjust rpartition rsplit rstrip
setdefault split splitlines startswith strip update upper values zfill bit_length title capitalize swapcase casefold
center expandtabs removeprefix removesuffix rindex isascii isdecimal isnumeric istitle isidentifier isprintable
translate encode decode sort format add discard from_iterable maketrans""".split()
DOUBLE = """init eq repr str len enter exit call iter lt le gt ge ne add sub mul floordiv mod pow and or xor lshift
rshift radd rsub rmul rfloordiv rmod rand ror rxor rlshift rrshift iadd isub imul ifloordiv imod ipow iand ior ixor
ilshift irshift neg pos invert abs bool contains getitem setitem""".split()
NOWHERE = """register mro elements open input law version_info with_traceback add_note""".split()
NO_NAMES = """attrgetter breakpoint builtins compile copyright credits delattr dir eval exec exit gc globals help id
importlib license locals methodcaller os quit type vars sys""".split()
NO_WORDS = """type typing typing_extensions enum Enum IntEnum StrEnum Flag IntFlag Generic Protocol ABC ABCMeta
namedtuple NamedTuple TypedDict TYPE_CHECKING abstractmethod dataclass overload contextmanager""".split()
NO_BEGINNINGS = "_wall _WallAttr _pe_ _dcw_ _enum_ _cm_ _twin_re_ _lay_ _law_ _stub_ _sre".split()
NO_WHOLE_NAMES = "_cold _tuplegetter _outside _record _written_out _member_names".split()
STATEMENTS = (
    ast.FunctionDef, ast.ClassDef, ast.ImportFrom, ast.Assign, ast.AugAssign, ast.AnnAssign, ast.If, ast.While,
    ast.For, ast.Return, ast.Break, ast.Continue, ast.Pass, ast.Raise, ast.Assert, ast.Delete, ast.Nonlocal,
    ast.Match, ast.With, ast.Try, ast.Expr)
# What values of Python's own have as methods or attributes, and which of these names are free all the same.
OF_BUILTINS = {name for kind in (str, int, list, tuple, dict, set, bytes) for name in dir(kind)}
OWN_ATTRIBUTES = "count index title find get join lower upper split strip copy add".split()
OWN_METHODS = METHODS[:METHODS.index("bit_length") + 1] + ["add", "discard"]
USING_UP = "list tuple dict sorted sum any all enumerate zip min max".split()
FREE_ERRORS = ("KeyError", "ZeroDivisionError", "StopIteration")
LISTED_ERRORS = FREE_ERRORS + ("ValueError", "LookupError", "IndexError")


def is_barred(name):
    """L12: whether it is a name that none in the package may have, digits and underscores behind it or not."""
    return name.startswith(tuple(NO_BEGINNINGS)) or name.rstrip("0123456789_") in NO_WHOLE_NAMES


def rules_of_text(text):
    """L10, L12, L14: what the signs and the lines of a file break."""
    lines = text.split("\n")
    if len(text.splitlines()) > 399:
        yield "L10", 400
    for number, line in enumerate(lines, start=1):
        if len(line) > 120 or "\t" in line:
            yield "L10", number
        if not all(" " <= sign <= "~" for sign in line):
            yield "L14", number
        # What is written as an attribute or a method may begin as the first one of them, but be more than that word.
        for ahead, name in re.findall(r"(\.|def )?\b(_\w*)", line):
            if is_barred(name) and not (ahead and name.startswith("_wall") and name != "_wall"):
                yield "L12", number


def docstrings(tree):
    """The nodes of all docstrings."""
    for node in ast.walk(tree):
        if isinstance(node, (ast.Module, ast.ClassDef, ast.FunctionDef)) and ast.get_docstring(node) is not None:
            yield node.body[0].value


def rules_of_module(tree):
    """L2, L3, L16: what stands at the top of a file."""
    imports_end = False
    for at, row in enumerate(tree.body):
        if isinstance(row, ast.ImportFrom):
            own = row.module.startswith("tiesums.") and row.level == 0
            library = row.module in LIBRARY and all(
                one.name in LIBRARY[row.module].split() and one.asname is None for one in row.names)
            if imports_end or not (own or library) or row.names[0].name == "*":
                yield "L2", row.lineno
        elif isinstance(row, (ast.FunctionDef, ast.ClassDef)):
            imports_end = True
        elif isinstance(row, ast.Assign):
            imports_end = True
            if len(row.targets) != 1 or not isinstance(row.targets[0], ast.Name):
                yield "L3", row.lineno
        elif not (at == 0 and isinstance(row, ast.Expr) and isinstance(row.value, ast.Constant)):
            yield "L3", row.lineno


def bound_names(tree):
    """(name, line) for each name that is bound somewhere."""
    for node in ast.walk(tree):
        if isinstance(node, (ast.FunctionDef, ast.ClassDef)):
            yield node.name, node.lineno
        elif isinstance(node, ast.Name) and isinstance(node.ctx, ast.Store):
            yield node.id, node.lineno
        elif isinstance(node, ast.arg):
            yield node.arg, node.lineno
        elif isinstance(node, ast.alias):
            yield node.asname or node.name, node.lineno
        elif isinstance(node, ast.ExceptHandler) and node.name:
            yield node.name, node.lineno


def methods_of(tree):
    """The functions that stand in a class."""
    return [row for node in ast.walk(tree) if isinstance(node, ast.ClassDef)
            for row in node.body if isinstance(row, ast.FunctionDef)]


def rules_of_names(tree):
    """L8, L12, L15, L17: names."""
    own = {(row.name, row.lineno) for row in methods_of(tree)}
    for name, line in bound_names(tree):
        double = name.startswith("__")
        if double and (name[2:-2] not in DOUBLE or (name, line) not in own):
            yield "L8", line
        if not re.fullmatch("_?[a-zA-Z][a-zA-Z0-9_]*|_|__[a-z]+__", name) or is_barred(name) and (name, line) not in own:
            yield "L12", line
        if name in NOWHERE or name in NO_NAMES and (name, line) not in own:
            yield "L17", line
        # A doctest that ran before may have left its last result there, as _.
        if hasattr(builtins, name) and name != "_" and (name, line) not in own:
            yield "L15", line
    for node in ast.walk(tree):
        if isinstance(node, ast.Attribute) and (node.attr in NOWHERE or node.attr.startswith("__")):
            if node.attr != "__init__":
                yield "L17", node.lineno
        if isinstance(node, ast.Name) and isinstance(node.ctx, ast.Load):
            if hasattr(builtins, node.id) and node.id not in BUILTINS:
                yield "L8", node.lineno


def rules_of_functions(tree):
    """L4, L5, L10: functions and their decorators."""
    in_classes = methods_of(tree)
    for node in ast.walk(tree):
        if isinstance(node, ast.FunctionDef):
            if node.end_lineno - node.lineno + 1 > 40:
                yield "L10", node.lineno
            for one in node.decorator_list:
                plain = isinstance(one, ast.Name) and one.id in ("property", "staticmethod", "classmethod")
                setter = isinstance(one, ast.Attribute) and one.attr == "setter"
                if node not in in_classes or not (plain or setter):
                    yield "L4", node.lineno
        if isinstance(node, ast.ClassDef) and node.decorator_list:
            yield "L5", node.lineno
        if isinstance(node, ast.stmt) and not isinstance(node, STATEMENTS):
            yield "L6", node.lineno


def rules_of_values(tree):
    """L7, L20, L27: literals, operators and strings."""
    for node in ast.walk(tree):
        if isinstance(node, ast.Constant) and isinstance(node.value, (float, complex)):
            yield "L7", node.lineno
        if isinstance(node, (ast.BinOp, ast.AugAssign)) and isinstance(node.op, (ast.Div, ast.MatMult)):
            yield "L7", node.lineno
        if isinstance(node, ast.Constant) and isinstance(node.value, str) and "%" in node.value:
            yield "L27", node.lineno
        if isinstance(node, ast.Constant) and isinstance(node.value, str) and node.value.endswith(("._", ".__")):
            yield "L27", node.lineno
        if isinstance(node, ast.Compare) and any(isinstance(one, (ast.Is, ast.IsNot)) for one in node.ops):
            sides = [node.left, *node.comparators]
            if not any(isinstance(one, ast.Constant) and one.value in (None, True, False) for one in sides):
                yield "L20", node.lineno


def rules_of_calls(tree, own_methods):
    """L7, L24, L25: what is called, and what it is passed."""
    for node in ast.walk(tree):
        if not isinstance(node, ast.Call):
            continue
        if isinstance(node.func, ast.Attribute) and node.func.attr not in METHODS + own_methods + ["__init__"]:
            yield "L25", node.lineno
        if isinstance(node.func, ast.Name) and node.func.id in ("any", "all", "min", "max", "sum", "sorted"):
            if any(isinstance(one, ast.GeneratorExp) for one in node.args):
                yield "L7", node.lineno
        if isinstance(node.func, ast.Name) and node.func.id == "frozenset":
            yield "L24", node.lineno
        if isinstance(node.func, ast.Attribute) and node.func.attr == "sort":
            yield "L25", node.lineno


def rules_of_iteration(tree):
    """L7, L23, L24, as far as the package goes: views, sets and stars stand where they are used up at once."""
    homes = {child: node for node in ast.walk(tree) for child in ast.iter_child_nodes(node)}
    for node in ast.walk(tree):
        home = homes.get(node)
        called = node.func if isinstance(node, ast.Call) else None
        name = called.id if isinstance(called, ast.Name) else called.attr if isinstance(called, ast.Attribute) else ""
        taker = home.func.id if isinstance(home, ast.Call) and isinstance(home.func, ast.Name) else ""
        looped = isinstance(home, (ast.For, ast.comprehension)) and home.iter is node
        if name in ("zip", "enumerate", "reversed", "range", "items", "keys", "values") and not looped:
            if taker not in USING_UP or name in ("reversed", "zip") and taker == "len":
                yield "L23", node.lineno
        if name == "set" or isinstance(node, ast.SetComp):
            if taker not in ("len", "sorted") and not isinstance(home, ast.Compare):
                yield "L24", node.lineno
        if isinstance(node, ast.GeneratorExp):
            yield "L7", node.lineno
        if isinstance(node, ast.Starred) and isinstance(home, ast.Call):
            if taker in BUILTINS and taker not in ("max", "min", "zip") or taker in LIBRARY["math"].split():
                yield "L7", node.lineno


def rules_of_library(tree):
    """L2: what is imported from the library is only called, and means nothing else in the file."""
    homes = {child: node for node in ast.walk(tree) for child in ast.iter_child_nodes(node)}
    names = [one.name for row in tree.body if isinstance(row, ast.ImportFrom) and row.module in LIBRARY for one in row.names]
    for node in ast.walk(tree):
        if isinstance(node, ast.Name) and node.id in names:
            home = homes[node]
            if not isinstance(home, ast.Call) or home.func is not node or home.keywords:
                yield "L2", node.lineno
            elif node.id in LIBRARY["itertools"].split():
                taker = homes[home]
                looped = isinstance(taker, (ast.For, ast.comprehension)) and taker.iter is home
                if not looped and not (isinstance(taker, ast.Call) and getattr(taker.func, "id", "") in USING_UP):
                    yield "L2", node.lineno
        if isinstance(node, ast.arg) and node.arg in names:
            yield "L2", node.lineno


def is_simple(node):
    """L6: a name, an attribute of a name, or a literal, as the rows of __exit__ may assign."""
    if isinstance(node, ast.Attribute):
        return isinstance(node.value, ast.Name)
    return isinstance(node, (ast.Name, ast.Constant))


def is_asked_for_none(test):
    """L6: the package has classes with __eq__, so __exit__ asks a name or an attribute only whether it is None."""
    if isinstance(test, ast.BoolOp):
        return all(is_asked_for_none(one) for one in test.values)
    if isinstance(test, ast.UnaryOp):
        return isinstance(test.op, ast.Not) and is_asked_for_none(test.operand)
    if not isinstance(test, ast.Compare) or len(test.ops) != 1 or not isinstance(test.ops[0], (ast.Is, ast.IsNot)):
        return False
    asked, wanted = test.left, test.comparators[0]
    return is_simple(asked) and not isinstance(asked, ast.Constant) and ast.unparse(wanted) == "None"


def is_row_of_exit(row):
    if isinstance(row, ast.If):
        return is_asked_for_none(row.test) and all(is_row_of_exit(one) for one in row.body + row.orelse)
    return isinstance(row, ast.Pass) or isinstance(row, ast.Assign) and is_simple(row.targets[0]) and is_simple(row.value)


def rules_of_blocks(tree):
    """L6, L7: with, __exit__ and :=, as far as the package goes."""
    homes = {child: node for node in ast.walk(tree) for child in ast.iter_child_nodes(node)}
    for node in ast.walk(tree):
        if isinstance(node, ast.With):
            if not all(isinstance(one.context_expr, (ast.Call, ast.Name, ast.Attribute)) for one in node.items):
                yield "L6", node.lineno
        if isinstance(node, ast.FunctionDef) and node.name == "__exit__":
            if not all(is_row_of_exit(row) for row in node.body):
                yield "L6", node.lineno
            # What left the block is not read, only whether something did.
            for name in [one for one in ast.walk(node) if isinstance(one, ast.Name) and isinstance(one.ctx, ast.Load)]:
                if name.id in [one.arg for one in node.args.args[2:]] or name.id == node.args.args[1].arg and not (
                        isinstance(homes[name], ast.Compare) and isinstance(homes[name].ops[0], (ast.Is, ast.IsNot))):
                    yield "L6", name.lineno
        if isinstance(node, ast.NamedExpr):
            home = node
            while isinstance(homes[home], ast.expr):
                home = homes[home]
            if not isinstance(homes[home], (ast.If, ast.While)) or homes[home].test is not home:
                yield "L7", node.lineno


def rules_of_classes(tree):
    """L18: no name is a method and an attribute in one class. L26: what methods and attributes are called."""
    for row in methods_of(tree):
        if row.name in OF_BUILTINS and row.name not in OWN_METHODS and not row.name.startswith("__"):
            yield "L26", row.lineno
    for node in ast.walk(tree):
        if isinstance(node, ast.Attribute) and isinstance(node.ctx, ast.Store) and (
                node.attr in OF_BUILTINS and node.attr not in OWN_ATTRIBUTES or node.attr in ("args", "format")):
            yield "L26", node.lineno
        if isinstance(node, ast.ClassDef):
            methods = [row.name for row in node.body if isinstance(row, ast.FunctionDef)]
            if len(methods) != len(set(methods)):
                yield "L18", node.lineno
            for one in ast.walk(node):
                if isinstance(one, ast.Attribute) and isinstance(one.ctx, ast.Store) and one.attr in methods:
                    yield "L18", one.lineno


def rules_of_errors(tree):
    """L19: what is caught and what is raised."""
    for node in ast.walk(tree):
        if isinstance(node, ast.ExceptHandler):
            kinds = node.type.elts if isinstance(node.type, ast.Tuple) else [node.type]
            for kind in kinds:
                if not isinstance(kind, ast.Name) or hasattr(builtins, kind.id) and kind.id not in LISTED_ERRORS:
                    yield "L19", node.lineno
        if isinstance(node, ast.Raise) and node.exc is not None:
            if not isinstance(node.exc, ast.Call) or not isinstance(node.exc.func, ast.Name):
                yield "L19", node.lineno


def generators_of(tree):
    """The names of the functions that yield."""
    return [node.name for node in ast.walk(tree) if isinstance(node, ast.FunctionDef)
            for inner in ast.walk(node) if isinstance(inner, (ast.Yield, ast.YieldFrom))]


def rules_of_generators(tree, generators):
    """L23: yield is a statement of its own, not under try or with; what yields is iterated at once and means no other thing."""
    homes = {child: node for node in ast.walk(tree) for child in ast.iter_child_nodes(node)}
    for node in ast.walk(tree):
        home = homes.get(node)
        if isinstance(node, (ast.Yield, ast.YieldFrom)):
            around = [home]
            while not isinstance(around[-1], ast.FunctionDef):
                around.append(homes[around[-1]])
            returns = [one for one in ast.walk(around[-1]) if isinstance(one, ast.Return) and one.value is not None]
            if not isinstance(home, ast.Expr) or returns or any(isinstance(one, (ast.Try, ast.With)) for one in around):
                yield "L23", node.lineno
        if isinstance(node, ast.Name) and node.id in generators:
            call = homes[home]
            looped = isinstance(call, (ast.For, ast.comprehension)) and call.iter is home or isinstance(call, ast.YieldFrom)
            taken = isinstance(call, ast.Call) and getattr(call.func, "id", "") in USING_UP and home in call.args
            if not (isinstance(home, ast.Call) and home.func is node and (looped or taken)):
                yield "L23", node.lineno
        if isinstance(node, ast.Attribute) and node.attr in generators or isinstance(node, ast.arg) and node.arg in generators:
            yield "L23", node.lineno


def rules_of_words(text, tree):
    """L17: words that do not occur but in comments and docstrings."""
    lines = text.split("\n")
    skipped = {number for node in docstrings(tree) for number in range(node.lineno, node.end_lineno + 1)}
    for number, line in enumerate(lines, start=1):
        code = line.split("#")[0]
        if number not in skipped and set(re.findall("[A-Za-z_]+", code)) & set(NO_WORDS):
            yield "L17", number


def broken(text, own_methods=(), generators=()):
    """The (rule, line) of all that this text of a file breaks."""
    tree = ast.parse(text)
    generators = [*generators, *generators_of(tree)]
    rows = [*rules_of_text(text), *rules_of_module(tree), *rules_of_names(tree), *rules_of_functions(tree)]
    rows += [*rules_of_values(tree), *rules_of_calls(tree, list(own_methods)), *rules_of_errors(tree)]
    rows += [*rules_of_iteration(tree), *rules_of_library(tree), *rules_of_blocks(tree), *rules_of_classes(tree)]
    return sorted(set(rows + [*rules_of_words(text, tree), *rules_of_generators(tree, generators)]))


class Rules(unittest.TestCase):

    def setUp(self):
        self.texts = {path: path.read_bytes().decode("ascii") for path in FILES}
        self.trees = {path: ast.parse(text) for path, text in self.texts.items()}

    def test_files(self):
        self.assertLessEqual(len(FILES), 100)
        for path in FILES:
            self.assertRegex(path.relative_to(FOLDER).as_posix(), r"^([a-z][a-z0-9_]*/)*([a-z][a-z0-9_]*|__init__|__main__)\.py$")
            self.assertTrue((path.parent / "__init__.py").is_file())

    def test_each_file_keeps_the_rules(self):
        own_methods = [row.name for tree in self.trees.values() for row in methods_of(tree)]
        generators = [name for tree in self.trees.values() for name in generators_of(tree)]
        for path, text in self.texts.items():
            self.assertEqual(broken(text, own_methods, generators), [], path.name)

    def test_each_generator_has_a_name_of_its_own(self):
        names = [node.name for tree in self.trees.values() for node in ast.walk(tree) if isinstance(node, ast.FunctionDef)]
        for name in {name for tree in self.trees.values() for name in generators_of(tree)}:
            self.assertEqual(names.count(name), 1, name)

    def test_python_gives_no_warning(self):
        for path, text in self.texts.items():
            with warnings.catch_warnings():
                warnings.simplefilter("error")
                compile(text, path.name, "exec")

    def test_imports_name_the_file_that_defines(self):
        for tree in self.trees.values():
            for row in tree.body:
                if isinstance(row, ast.ImportFrom) and row.module.startswith("tiesums."):
                    home = ast.parse((FOLDER.parent / (row.module.replace(".", "/") + ".py")).read_text())
                    names = {one.name for one in home.body if isinstance(one, (ast.FunctionDef, ast.ClassDef))}
                    names |= {one.targets[0].id for one in home.body if isinstance(one, ast.Assign)}
                    self.assertLessEqual({one.name for one in row.names}, names)

    def test_no_two_files_import_from_each_other(self):
        needs = {path.stem: {row.module.split(".")[-1] for row in tree.body
                             if isinstance(row, ast.ImportFrom) and row.module.startswith("tiesums.")}
                 for path, tree in self.trees.items()}
        while needs:
            ready = [name for name in needs if not needs[name] & set(needs)]
            self.assertTrue(ready, f"a ring among {sorted(needs)}")
            needs = {name: needs[name] for name in needs if name not in ready}

    def test_names_are_bound_once_at_the_top(self):
        for path, tree in self.trees.items():
            top = [row for row in tree.body if not isinstance(row, ast.Expr)]
            names = [row.name for row in top if isinstance(row, (ast.FunctionDef, ast.ClassDef))]
            names += [row.targets[0].id for row in top if isinstance(row, ast.Assign)]
            names += [one.asname or one.name for row in top if isinstance(row, ast.ImportFrom) for one in row.names]
            self.assertEqual(len(names), len(set(names)), path.name)
            classes = {row.name for row in top if isinstance(row, ast.ClassDef)}
            imports = {one.name for row in top if isinstance(row, ast.ImportFrom) for one in row.names}
            inner = {node.arg for node in ast.walk(tree) if isinstance(node, ast.arg)}
            inner |= {node.id for row in top if isinstance(row, (ast.FunctionDef, ast.ClassDef))
                      for node in ast.walk(row) if isinstance(node, ast.Name) and isinstance(node.ctx, ast.Store)}
            self.assertEqual(inner & (classes | imports), set(), path.name)


class TheReaderOfRules(unittest.TestCase):

    def test_it_finds_what_breaks_a_rule(self):
        for rule, text in (
                ("L2", "from os import path\n"), ("L2", "from math import sqrt\n"),
                ("L3", "import math\n"), ("L3", "A, B = 1, 2\n"), ("L3", "print(1)\n"),
                ("L4", "@cached\ndef f():\n    pass\n"), ("L6", "def f():\n    global a\n"),
                ("L7", "A = 1.5\n"), ("L7", "def f(a):\n    return a / 2\n"),
                ("L7", "def f(a):\n    return any(b for b in a)\n"), ("L8", "def f(a):\n    return chr(a)\n"),
                ("L10", "# " + "x" * 120 + "\n"), ("L10", "def f():\n" + "    pass\n" * 40),
                ("L10", "\n" * 400), ("L12", "A_ = 1 # _wall\n"), ("L14", "# \u00e9\n"),
                ("L15", "def f(max):\n    pass\n"), ("L17", "def f(a):\n    return a.elements\n"),
                ("L17", "def f(a):\n    return type(a)\n"), ("L19", "def f():\n    try:\n        pass\n"
                                                             "    except TypeError:\n        pass\n"),
                ("L19", "def f(a):\n    raise a\n"), ("L20", "def f(a, b):\n    return a is b\n"),
                ("L23", "def f(a):\n    b = zip(a, a)\n    return b\n"), ("L23", "def f(a):\n    return a.items()\n"),
                *[("L23", "def f(a):\n    yield a\n\n\ndef g(a):\n    " + row + "\n") for row in (
                    "return f(a)", "b = f", "return a(f)", "return [f(a)]", "b, c = f(a)", "return a in f(a)", "return len(f(a))",
                    "return a.f", "return max(a, key=f)")],
                ("L23", "def f(a):\n    b = yield a\n    return\n"), ("L23", "def f(a):\n    yield a\n    return 1\n"),
                ("L23", "def f(a):\n    with a:\n        yield a\n"), ("L23", "def f(a):\n    yield a\n\n\ndef g(f):\n    pass\n"),
                ("L24", "def f(a):\n    return set(a)\n"), ("L24", "def f(a):\n    for b in {c for c in a}:\n        pass\n"),
                ("L7", "def f(a):\n    return tuple(b for b in a)\n"),
                ("L7", "from math import gcd\n\n\ndef f(a):\n    return gcd(*a)\n"),
                ("L2", "from math import gcd\n\n\ndef f(a):\n    return [gcd, a]\n"),
                ("L2", "from math import gcd\n\n\ndef f(gcd):\n    return gcd(1, 2)\n"),
                ("L2", "from itertools import combinations\n\n\ndef f(a):\n    b = combinations(a, 2)\n    return b\n"),
                ("L6", "class A:\n    def __exit__(self, kind, value, trace):\n        self.shut(1)\n"),
                ("L6", "class A:\n    def __exit__(self, kind, value, trace):\n        self.kind = value\n"),
                ("L6", "class A:\n    def __exit__(self, kind, value, trace):\n        if kind:\n            pass\n"),
                ("L6", "class A:\n    def __exit__(self, kind, value, trace):\n        self.a, self.b = 1, 2\n"),
                ("L6", "def f(a):\n    with a[0] as b:\n        return b\n"),
                *[("L6", f"class A:\n    def __exit__(self, kind, value, trace):\n        if {test}:\n            pass\n")
                  for test in ("self.kept", "not self.kept", "kind is not None or not self.kept", "self.kept == 1",
                               "self.kept is True", "self.kept is None and self.a[0] is None", "None is None",
                               "self.kept() is None", "self.kept is None is kind", "-self.kept is None")],
                ("L7", "def f(a):\n    b = (c := a) + 1\n    return b + c\n"),
                ("L7", "def f(a):\n    while a:\n        return (c := a)\n"),
                ("L18", "class A:\n    def b(self):\n        self.b = 1\n"),
                *[("L26", f"class A:\n    def b(self):\n        self.{name} = 1\n") for name in (
                    "items keys values pop update append clear extend insert remove reverse setdefault sort args encode decode "
                    "hex fromhex format real numerator bit_count union").split()],
                *[("L26", f"class A:\n    def {name}(self):\n        return 1\n") for name in (
                    "decode encode hex sort format title bit_count conjugate union").split()],
                ("L25", "def f(a):\n    return a.hex()\n"), ("L27", "A = 'a%'\n")):
            self.assertIn(rule, [found for found, line in broken(text)], text)

    def test_it_finds_the_names_that_none_may_have(self):
        names = "_wall _walls _WallAttr _pe_ _pe_a _dcw_b _enum_c _cm_d _twin_re_e _lay_f _law_g _stub_h _sre _srei".split()
        for name in "_cold _tuplegetter _outside _record _written_out _member_names".split():
            names += [name, name + "2", name + "_", name + "_1_0"]
        for name in names:
            for text in (f"def {name}_(a):\n    return a\n", f"{name} = 1\n", f"def f({name}):\n    return {name}\n",
                         f"from tiesums.nets import {name}\n", f"def f(a):\n    return a(1, {name}=2)\n",
                         f"def f(a):\n    for {name}, b in a:\n        pass\n", f"class A:\n    {name} = 1\n",
                         f"def f(a):\n    return [{name} for {name} in a]\n", f"def f(a):\n    return f'{{{name}}}'\n"):
                self.assertIn(("L12", text[:text.index(name)].count("\n") + 1), broken(text), text)
            if name != "_walls":
                self.assertIn(("L12", 2), broken(f"def f(a):\n    a.{name} = 1\n"))

    def test_it_lets_names_that_are_like_these(self):
        for name in ("_walls", "_outsides", "_recorded", "_around", "_outside_of", "_lays", "_enum", "_colder", "a_cold"):
            self.assertEqual(broken(f"def f(a):\n    a.{name} = 1\n"), [])
            if name != "_walls":
                self.assertEqual(broken(f"{name} = 1\n"), [])
        self.assertEqual(broken("class A:\n    def _walls(self):\n        return 1\n"), [])

    def test_it_lets_exit_ask_for_none(self):
        for test in ("self.kept is None", "kind is not None or self.kept is None", "not (kind is None and self.a is None)"):
            text = f"class A:\n    def __exit__(self, kind, value, trace):\n        if {test}:\n            self.a = self.b\n"
            self.assertEqual(broken(text), [], test)

    def test_it_lets_what_breaks_none(self):
        text = '"""Some type."""\n\nfrom math import gcd\n\nONE = (1, 1)\n\n\ndef cut(a, b=2):\n    return a // gcd(a, b)\n'
        self.assertEqual(broken(text), [])
        for name in "copy add get index mark".split():
            self.assertEqual(broken(f"class A:\n    def b(self):\n        self.{name} = 1\n"), [])
            self.assertEqual(broken(f"class A:\n    def {name}(self):\n        return 1\n"), [])
        for row in ("return list(f(a))", "for b in f(a):\n        a(b)", "return [b for b in f(a)]", "yield from f(a)",
                    "for b, c in enumerate(f(a)):\n        a(b, c)"):
            self.assertEqual(broken("def f(a):\n    yield a\n    return\n\n\ndef g(a):\n    " + row + "\n"), [], row)


if __name__ == "__main__":
    unittest.main()
