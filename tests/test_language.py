"""The package's files against ../shared/LANGUAGE.md, rule by rule, as far as a look at their text can tell."""

import ast
import builtins
import io
import keyword
import pathlib
import re
import tokenize
import unittest

ROOT = pathlib.Path(__file__).resolve().parent.parent
PACKAGE = ROOT / "threebooks"

OWN_NAMES = set(
    "len range enumerate zip min max sum abs sorted reversed int str bool list tuple dict set frozenset isinstance "
    "ord repr any all divmod Exception ValueError TypeError KeyError IndexError LookupError ZeroDivisionError "
    "ArithmeticError OverflowError RuntimeError NotImplementedError AttributeError StopIteration".split()
)
OWN_METHODS = set(
    "append clear copy count endswith extend find get index insert isalnum isalpha isdigit islower isspace isupper "
    "items join keys ljust lower lstrip partition pop remove replace reverse rfind rjust rpartition rsplit rstrip "
    "setdefault split splitlines startswith strip update upper values zfill bit_length".split()
)
OWN_VALUES = {"count", "index", "title", "find", "get", "join", "lower", "upper", "split", "strip", "copy", "add"}
CHANGING = {"append", "clear", "extend", "insert", "pop", "remove", "reverse", "setdefault", "update"}
UNDERSCORED = {"__init__", "__eq__", "__repr__", "__str__", "__len__"}
NEVER = {"register", "mro", "elements", "open", "input", "version_info", "with_traceback", "add_note"}
NEVER_NAMES = set(
    "attrgetter breakpoint builtins compile copyright credits delattr dir eval exec exit gc getattr globals hasattr "
    "help id importlib license locals methodcaller os quit setattr super type vars sys __name__".split()
)
NEVER_WORDS = set(
    "type typing typing_extensions enum Enum IntEnum StrEnum Flag IntFlag Generic Protocol ABC ABCMeta namedtuple "
    "NamedTuple TypedDict TYPE_CHECKING abstractmethod".split()
)
NEVER_FILES = {"test", "tests", "testing", "site", "conftest", "sitecustomize", "usercustomize"} | NEVER_WORDS
TAKEN_ATTRIBUTES = {name for kind in (str, int, list, dict, set, bytes, tuple) for name in dir(kind)}
STATEMENTS = (
    ast.Assign, ast.AugAssign, ast.If, ast.While, ast.For, ast.Return, ast.Break, ast.Continue, ast.Pass, ast.Raise,
    ast.Try, ast.Expr, ast.FunctionDef, ast.ClassDef, ast.ImportFrom,
)
EXPRESSIONS = (
    ast.BoolOp, ast.BinOp, ast.UnaryOp, ast.IfExp, ast.Dict, ast.Set, ast.ListComp, ast.Compare, ast.Call,
    ast.FormattedValue, ast.JoinedStr, ast.Constant, ast.Attribute, ast.Subscript, ast.Name, ast.List, ast.Tuple,
    ast.Slice, ast.Lambda,
)
WALKED = {"zip", "enumerate", "reversed", "range"}
WALKERS = {"list", "tuple", "dict", "sorted", "sum", "any", "all", "enumerate", "zip", "min", "max"}


def name_of_call(node):
    return node.func.id if isinstance(node, ast.Call) and isinstance(node.func, ast.Name) else None


def parents_of(tree):
    return {child: parent for parent in ast.walk(tree) for child in ast.iter_child_nodes(parent)}


def bound_names(tree):
    """Every name that a file binds, with its line."""
    for node in ast.walk(tree):
        if isinstance(node, (ast.FunctionDef, ast.ClassDef)):
            yield node.name, node.lineno
        elif isinstance(node, ast.arg):
            yield node.arg, node.lineno
        elif isinstance(node, ast.Name) and isinstance(node.ctx, ast.Store):
            yield node.id, node.lineno
        elif isinstance(node, ast.ImportFrom):
            for part in node.names:
                yield part.asname or part.name, node.lineno
        elif isinstance(node, ast.ExceptHandler) and node.name:
            yield node.name, node.lineno


def is_plain(node, functions):
    if isinstance(node, ast.Constant):
        return node.value is None or isinstance(node.value, (bool, int, str))
    if isinstance(node, ast.UnaryOp):
        return isinstance(node.op, ast.USub) and is_plain(node.operand, functions)
    if isinstance(node, (ast.List, ast.Tuple)):
        return all(is_plain(part, functions) for part in node.elts)
    if isinstance(node, ast.Dict):
        return all(part is not None and is_plain(part, functions) for part in node.keys + node.values)
    return isinstance(node, ast.Name) and node.id in functions


def text_faults(text):
    """L10, L14, L17, L27 in the bare text."""
    lines = text.split("\n")
    if len(text.splitlines()) > 400:
        yield "L10", len(lines)
    for number, row in enumerate(lines, start=1):
        if len(row) > 120 or "\t" in row:
            yield "L10", number
        if any(not " " <= sign <= "~" for sign in row):
            yield "L14", number
        if NEVER_WORDS & set(re.findall(r"\w+", row)) or re.search("dataclass|overload|contextmanager", row):
            yield "L17", number


def top_faults(tree):
    """L2, L3, L15, L16 at a file's top."""
    functions, seen, imports_over = set(), [], False
    for at, node in enumerate(tree.body):
        if isinstance(node, ast.Expr) and isinstance(node.value, ast.Constant) and at == 0:
            continue
        if isinstance(node, ast.ImportFrom):
            own = node.level == 0 and re.fullmatch(r"threebooks\.[a-z0-9_]+", node.module or "")
            if imports_over or not own or node.module == "threebooks.__main__":
                yield "L2", node.lineno
            if any(part.name == "*" or part.asname for part in node.names):
                yield "L2", node.lineno
            continue
        imports_over = True
        if isinstance(node, ast.FunctionDef):
            functions.add(node.name)
        elif isinstance(node, ast.Assign):
            if not is_plain(node.value, functions) or not isinstance(node.targets[0], ast.Name):
                yield "L3", node.lineno
            nested = (ast.List, ast.Dict)
            if isinstance(node.value, nested) and any(
                    isinstance(part, nested) for part in ast.walk(node.value) if part is not node.value):
                yield "L15", node.lineno
        elif not isinstance(node, ast.ClassDef):
            yield ("L2" if isinstance(node, ast.Import) else "L3"), node.lineno
            continue
        names = [target.id for target in node.targets] if isinstance(node, ast.Assign) else [node.name]
        if set(names) & set(seen):
            yield "L15", node.lineno
        seen += names


def kept_faults(tree):
    """L15: what stands at a file's top is only read."""
    kept = {
        node.targets[0].id for node in tree.body
        if isinstance(node, ast.Assign) and isinstance(node.value, (ast.List, ast.Dict))
    }
    parents = parents_of(tree)
    for node in ast.walk(tree):
        if isinstance(node, ast.Name) and node.id in kept and isinstance(node.ctx, ast.Load):
            parent = parents[node]
            if isinstance(parent, ast.Subscript) and not isinstance(parent.ctx, ast.Load):
                yield "L15", node.lineno
            elif isinstance(parent, ast.Attribute) and parent.attr in CHANGING:
                yield "L15", node.lineno
            elif isinstance(parent, (ast.Return, ast.Assign)):
                yield "L15", node.lineno
            elif isinstance(parent, ast.Call) and name_of_call(parent) not in OWN_NAMES:
                yield "L15", node.lineno


def function_faults(node, within):
    """L4, L5, L10, L21, L28 of one function."""
    given = node.args
    if given.vararg or given.kwarg or given.kwonlyargs or given.posonlyargs or node.decorator_list:
        yield "L4", node.lineno
    if not all(is_plain(default, ()) for default in given.defaults):
        yield "L4", node.lineno
    if node.returns or any(arg.annotation for arg in given.args):
        yield "L21", node.lineno
    if node.end_lineno - node.lineno + 1 > 40:
        yield "L10", node.lineno
    if node.name.startswith("__") and (node.name not in UNDERSCORED or not isinstance(within, ast.ClassDef)):
        yield "L5", node.lineno
    if node.name == "__init__":
        for part in ast.walk(node):
            if isinstance(part, ast.Return):
                yield "L28", part.lineno


def class_faults(node, within):
    """L5 and L15 of one class."""
    if node.decorator_list or node.keywords or len(node.bases) > 1:
        yield "L5", node.lineno
    if not all(isinstance(part, ast.FunctionDef) for part in node.body):
        yield "L5", node.lineno
    if not isinstance(within, ast.Module):
        yield "L15", node.lineno
    names = [part.name for part in node.body if isinstance(part, ast.FunctionDef)]
    if len(set(names)) < len(names):
        yield "L18", node.lineno


def statement_faults(node, within):
    """L6 and what other rows say of statements."""
    if not isinstance(node, STATEMENTS):
        yield "L6", node.lineno
    if isinstance(node, ast.ImportFrom) and not isinstance(within, ast.Module):
        yield "L2", node.lineno
    if isinstance(node, ast.Assign) and (len(node.targets) > 1 or isinstance(node.targets[0], (ast.Tuple, ast.List))):
        yield "L6", node.lineno
    if isinstance(node, (ast.For, ast.While)) and node.orelse:
        yield "L6", node.lineno
    if isinstance(node, ast.Try) and (node.finalbody or any(handler.type is None for handler in node.handlers)):
        yield "L6", node.lineno
    if isinstance(node, ast.Expr) and not isinstance(node.value, ast.Call) and not isinstance(within, ast.Module):
        yield "L6", node.lineno
    if isinstance(node, ast.Try):
        for handler in node.handlers:
            if {part.id for part in ast.walk(handler.type) if isinstance(part, ast.Name)} & {"Exception", "TypeError"}:
                yield "L19", node.lineno
    if isinstance(node, ast.For):
        yield from walk_faults(node)


def walk_faults(node):
    """L23: what a loop walks is not changed in it."""
    walked = node.iter
    while isinstance(walked, ast.Call) and walked.args and name_of_call(walked) in WALKED:
        walked = walked.args[0]
    if isinstance(walked, ast.Call) and isinstance(walked.func, ast.Attribute) and walked.func.attr == "items":
        walked = walked.func.value
    told = ast.dump(walked).replace("Store()", "Load()")
    for part in ast.walk(node):
        if isinstance(part, ast.Call) and isinstance(part.func, ast.Attribute) and part.func.attr in CHANGING:
            if ast.dump(part.func.value) == told:
                yield "L23", part.lineno
        if isinstance(part, ast.Subscript) and isinstance(part.ctx, ast.Store) and ast.dump(part.value) == told:
            yield "L23", part.lineno


def expression_faults(node, within):
    """L7 and what other rows say of expressions."""
    if not isinstance(node, EXPRESSIONS):
        yield "L7", node.lineno
    if isinstance(node, ast.BinOp) and isinstance(node.op, (ast.Div, ast.MatMult)):
        yield "L7", node.lineno
    if isinstance(node, ast.BinOp) and isinstance(node.op, ast.Pow):
        if not isinstance(node.right, ast.Constant) or not 0 <= node.right.value <= 64:
            yield "L27", node.lineno
    if isinstance(node, ast.Constant) and isinstance(node.value, (float, complex, bytes)):
        yield "L7", node.lineno
    if isinstance(node, ast.Constant) and isinstance(node.value, str) and "%" in node.value:
        yield "L27", node.lineno
    if isinstance(node, ast.ListComp) and (len(node.generators) > 1 or len(node.generators[0].ifs) > 1):
        yield "L7", node.lineno
    if isinstance(node, ast.FormattedValue):
        if not isinstance(node.value, ast.Name) or node.format_spec or node.conversion not in (-1, ord("r")):
            yield "L7", node.lineno
    if isinstance(node, ast.Compare):
        for operator, right in zip(node.ops, node.comparators):
            if isinstance(operator, (ast.Is, ast.IsNot)):
                if not isinstance(right, ast.Constant) or right.value not in (None, True, False):
                    yield "L20", node.lineno
    if isinstance(node, ast.Set) and len(node.elts) > 2 and not isinstance(within, ast.Compare):
        yield "L13", node.lineno
    if isinstance(node, ast.Call):
        yield from call_faults(node, within)


def call_faults(node, within):
    """L7, L22, L23, L24 of one call."""
    if any(isinstance(part, ast.Starred) for part in node.args) or any(part.arg is None for part in node.keywords):
        yield "L7", node.lineno
    allowed = {"sorted": {"key", "reverse"}, "min": {"key", "default"}, "max": {"key", "default"},
               "sum": {"start"}, "enumerate": {"start"}, "zip": {"strict"}}
    name = name_of_call(node)
    if name in OWN_NAMES and not {part.arg for part in node.keywords} <= allowed.get(name, set()):
        yield "L22", node.lineno
    views = isinstance(node.func, ast.Attribute) and node.func.attr in ("items", "keys", "values")
    if name in WALKED or views:
        at_once = isinstance(within, (ast.For, ast.comprehension)) or name_of_call(within) in WALKERS | {"reversed"}
        joined = isinstance(within, ast.Call) and isinstance(within.func, ast.Attribute) and within.func.attr == "join"
        asked = isinstance(within, ast.Compare)
        if not (at_once or joined) or asked:
            yield "L23", node.lineno
    if name in ("set", "frozenset"):
        if not isinstance(within, (ast.Compare, ast.BinOp)) and name_of_call(within) not in ("sorted", "len"):
            yield "L24", node.lineno


def name_faults(tree):
    """L8, L12, L15, L17 of names."""
    imports = {part.name for node in tree.body if isinstance(node, ast.ImportFrom) for part in node.names}
    classes = {node.name for node in tree.body if isinstance(node, ast.ClassDef)}
    for name, number in bound_names(tree):
        if not re.fullmatch(r"[A-Za-z][A-Za-z0-9_]*", name) and name not in UNDERSCORED:
            yield "L12", number
        if name in NEVER or name in NEVER_NAMES:
            yield "L17", number
    for node in ast.walk(tree):
        if isinstance(node, (ast.arg, ast.Name)):
            name = node.arg if isinstance(node, ast.arg) else node.id
            stored = isinstance(node, ast.arg) or isinstance(node.ctx, ast.Store)
            if stored and (name in imports | classes or name in dir(builtins) or keyword.issoftkeyword(name)):
                yield "L15", node.lineno
    known = {name for name, _ in bound_names(tree)} | OWN_NAMES
    for node in ast.walk(tree):
        if isinstance(node, ast.Name) and node.id not in known:
            yield "L8", node.lineno


def attribute_faults(tree):
    """L17, L25, L26 of methods and values."""
    parents = parents_of(tree)
    for node in ast.walk(tree):
        if not isinstance(node, ast.Attribute):
            continue
        called = isinstance(parents[node], ast.Call) and parents[node].func is node
        if node.attr in NEVER or node.attr in ("format", "format_map") or node.attr.startswith("_"):
            yield "L17", node.lineno
        if called and node.attr in TAKEN_ATTRIBUTES and node.attr not in OWN_METHODS | {"add", "discard"}:
            yield "L25", node.lineno
        if not called and node.attr in TAKEN_ATTRIBUTES and node.attr not in OWN_VALUES:
            yield "L26", node.lineno


def kept_value_faults(tree):
    """L22: Python's own names are called, or stand where the row says."""
    parents = parents_of(tree)
    for node in ast.walk(tree):
        if isinstance(node, ast.Name) and node.id in OWN_NAMES and node.id[0].islower():
            parent = parents[node]
            called = isinstance(parent, ast.Call) and parent.func is node
            as_key = isinstance(parent, ast.keyword) and parent.arg == "key"
            named = isinstance(parent, ast.Tuple) or name_of_call(parent) == "isinstance"
            if not (called or as_key or named):
                yield "L22", node.lineno


def top_names(tree):
    """The names that a file's top binds or draws from elsewhere, and those of them that are classes."""
    names, classes = set(), set()
    for node in tree.body:
        if isinstance(node, ast.ImportFrom):
            names |= {part.name for part in node.names}
            classes |= {part.name for part in node.names if re.match("[A-Z]+[a-z]", part.name)}
        if isinstance(node, (ast.FunctionDef, ast.ClassDef)):
            names.add(node.name)
        if isinstance(node, ast.ClassDef):
            classes.add(node.name)
        if isinstance(node, ast.Assign):
            names |= {target.id for target in node.targets if isinstance(target, ast.Name)}
    return names, classes


def class_use_faults(tree):
    """L18: a class is called, a base or asked for, and values are given through a local name."""
    names, classes = top_names(tree)
    parents = parents_of(tree)
    for node in ast.walk(tree):
        if isinstance(node, ast.Name) and node.id in classes:
            parent = parents[node]
            as_base = isinstance(parent, (ast.ClassDef, ast.ExceptHandler, ast.Raise, ast.Attribute))
            called = isinstance(parent, ast.Call) and (parent.func is node or name_of_call(parent) == "isinstance")
            if not (as_base or called):
                yield "L18", node.lineno
        if isinstance(node, (ast.Attribute, ast.Subscript)) and isinstance(node.ctx, ast.Store):
            root = node
            while isinstance(root, (ast.Attribute, ast.Subscript)):
                root = root.value
            if isinstance(root, ast.Name) and root.id in names:
                yield "L18", node.lineno


def error_faults(tree):
    """L19: errors are made on the spot, and Python's own are taken round little."""
    for node in ast.walk(tree):
        if isinstance(node, ast.Raise) and not isinstance(node.exc, ast.Call):
            yield "L19", node.lineno
        if not isinstance(node, ast.Try):
            continue
        taken = {part.id for handler in node.handlers for part in ast.walk(handler) if isinstance(part, ast.Name)}
        allowed = {"int", "str", "index", "remove"} if taken & {"ValueError", "LookupError"} else set()
        for part in [part for row in node.body for part in ast.walk(row)]:
            if taken & {"ValueError", "LookupError", "IndexError"} and isinstance(part, ast.Call):
                if getattr(part.func, "id", getattr(part.func, "attr", "")) not in allowed:
                    yield "L19", part.lineno


def lambda_faults(tree):
    """L13: two lambdas with the same parameters don't stand on one line."""
    seen = set()
    for node in ast.walk(tree):
        if isinstance(node, ast.Lambda):
            told = (node.lineno, tuple(arg.arg for arg in node.args.args))
            if told in seen:
                yield "L13", node.lineno
            seen.add(told)


def underscored_faults(tree):
    """L28: the methods with two underscores, but __init__, store and change nothing."""
    for node in ast.walk(tree):
        if isinstance(node, ast.FunctionDef) and node.name in UNDERSCORED - {"__init__"}:
            for part in ast.walk(node):
                stored = isinstance(getattr(part, "ctx", None), ast.Store) and not isinstance(part, ast.Name)
                changing = isinstance(part, ast.Attribute) and part.attr in CHANGING
                if stored or changing or isinstance(part, ast.AugAssign):
                    yield "L28", part.lineno


def token_faults(text):
    """L27: escapes and long numbers."""
    for token in tokenize.generate_tokens(io.StringIO(text).readline):
        if token.type == tokenize.STRING and re.search(r"""\\[^nt\\'"]""", token.string.replace("\\\\", "")):
            yield "L27", token.start[0]
        if token.type == tokenize.NUMBER and len(token.string) > 900:
            yield "L27", token.start[0]


def faults(text):
    """The rule and line of everything in a file's text that lies outside the rules."""
    tree = ast.parse(text)
    found = list(text_faults(text)) + list(top_faults(tree)) + list(kept_faults(tree))
    found += list(name_faults(tree)) + list(attribute_faults(tree)) + list(kept_value_faults(tree))
    found += list(class_use_faults(tree)) + list(error_faults(tree)) + list(lambda_faults(tree))
    found += list(underscored_faults(tree)) + list(token_faults(text))
    parents = parents_of(tree)
    for node in ast.walk(tree):
        within = parents.get(node)
        if isinstance(node, ast.FunctionDef):
            found += function_faults(node, within)
        if isinstance(node, ast.ClassDef):
            found += class_faults(node, within)
        if isinstance(node, ast.stmt):
            found += statement_faults(node, within)
        if isinstance(node, ast.expr):
            found += expression_faults(node, within)
    return sorted(set(found))


def files():
    return sorted(PACKAGE.glob("*.py"))


def drawn_from(path):
    return {
        node.module.split(".")[1]: [part.name for part in node.names]
        for node in ast.parse(path.read_text("utf-8")).body if isinstance(node, ast.ImportFrom)
    }


class PackageTest(unittest.TestCase):
    def test_files_and_their_names(self):
        for path in PACKAGE.iterdir():
            if path.name == "__pycache__":
                continue
            self.assertTrue(path.is_file() and re.fullmatch(r"(__init__|[a-z][a-z0-9_]*)\.py", path.name), path)
            self.assertFalse(path.stem in NEVER_FILES or path.stem.startswith("test_"), path)
            self.assertNotIn(path.stem, dir(builtins))
        self.assertTrue((PACKAGE / "__init__.py").is_file())

    def test_every_file_keeps_to_the_rules(self):
        for path in files():
            with self.subTest(file=path.name):
                self.assertEqual(faults(path.read_text("utf-8")), [])

    def test_no_two_files_draw_from_one_another(self):
        drawn = {path.stem: set(drawn_from(path)) for path in files()}
        self.assertEqual(drawn["__init__"], set())
        while drawn:
            free = [name for name, needed in drawn.items() if not needed & set(drawn)]
            self.assertTrue(free, f"{sorted(drawn)} draw from one another")
            drawn = {name: needed for name, needed in drawn.items() if name not in free}

    def test_names_come_from_the_file_that_defines_them_and_are_used(self):
        for path in files():
            tree = ast.parse(path.read_text("utf-8"))
            used = {node.id for node in ast.walk(tree) if isinstance(node, ast.Name)}
            for node in tree.body:
                if not isinstance(node, ast.ImportFrom):
                    continue
                source = ast.parse((PACKAGE / (node.module.split(".")[1] + ".py")).read_text("utf-8"))
                defined = {part.name for part in source.body if isinstance(part, (ast.FunctionDef, ast.ClassDef))}
                defined |= {part.targets[0].id for part in source.body if isinstance(part, ast.Assign)}
                for part in node.names:
                    self.assertIn(part.name, defined, path)
                    self.assertIn(part.name, used, path)

    def test_no_name_is_a_method_and_a_value(self):
        methods, values = set(), set()
        for path in files():
            for node in ast.walk(ast.parse(path.read_text("utf-8"))):
                if isinstance(node, ast.ClassDef):
                    methods |= {part.name for part in node.body if isinstance(part, ast.FunctionDef)}
                if isinstance(node, ast.Attribute) and isinstance(node.ctx, ast.Store):
                    values.add(node.attr)
        self.assertEqual(methods & values, set())


class CheckerTest(unittest.TestCase):
    """The checks above are worth something only if they see what they look for."""

    bad = (
        ("L2", "import os\n"), ("L2", "from .fund import Fund\n"), ("L2", "from threebooks.fund import *\n"),
        ("L2", "def f():\n    from threebooks.fund import Fund\n    return Fund()\n"),
        ("L3", "X = 1 + 1\n"), ("L3", "print(1)\n"), ("L4", "def f(*a):\n    return a\n"),
        ("L4", "def f(a=[x for x in ()]):\n    return a\n"), ("L5", "class A:\n    x = 1\n"),
        ("L6", "def f():\n    a = b = 1\n    return a + b\n"), ("L6", "def f(x):\n    del x[0]\n"),
        ("L6", "def f(x):\n    for y in x:\n        pass\n    else:\n        pass\n"),
        ("L6", "def f(x):\n    assert x\n"), ("L7", "def f(x):\n    return x / 2\n"),
        ("L7", "def f(x):\n    return 1.5\n"), ("L7", "def f(x):\n    return any(y for y in x)\n"),
        ("L7", "def f(x):\n    return {y: y for y in x}\n"), ("L7", "def f(x):\n    return max(*x)\n"),
        ("L7", "def f(x):\n    return [z for y in x for z in y]\n"), ("L8", "def f(x):\n    return hash(x)\n"),
        ("L10", "X = 1" + " " * 130 + "\n"), ("L10", "def f():\n" + "    pass\n" * 41),
        ("L13", "def f(x):\n    return sorted(sorted(x, key=lambda y: y), key=lambda y: -y)\n"),
        ("L12", "def _f():\n    pass\n"), ("L14", "# \u00e4\n"), ("L15", "X = [[1]]\n"), ("L15", "X = 1\nX = 2\n"),
        ("L15", "def f(min):\n    return min\n"),
        ("L15", "X = [1]\n\n\ndef f():\n    X.append(2)\n"), ("L15", "X = [1]\n\n\ndef f():\n    return X\n"),
        ("L17", "# a type\n"), ("L17", "def f(x):\n    return x.open\n"), ("L17", "def open():\n    pass\n"),
        ("L18", "class A:\n    pass\n\n\ndef f():\n    return [A]\n"),
        ("L18", "class A:\n    pass\n\n\ndef f():\n    A.x = 1\n"),
        ("L18", "class A:\n    def f(self):\n        pass\n\n    def f(self):\n        pass\n"),
        ("L19", "def f(x):\n    try:\n        x()\n    except Exception:\n        pass\n"),
        ("L19", "def f(x):\n    try:\n        x()\n    except ValueError:\n        pass\n"),
        ("L19", "def f(x):\n    try:\n        return x[int(1)]\n    except IndexError:\n        return 0\n"),
        ("L19", "def f(x):\n    raise x\n"),
        ("L20", "def f(x, y):\n    return x is y\n"), ("L21", "def f(x: int):\n    return x\n"),
        ("L22", "def f(x):\n    return [len, x]\n"), ("L23", "def f(x):\n    y = range(x)\n    return y\n"),
        ("L23", "def f(x):\n    for y in x:\n        x.append(y)\n"),
        ("L24", "def f(x):\n    y = set(x)\n    return y\n"),
        ("L25", "def f(x):\n    x.sort()\n"), ("L26", "def f(x):\n    x.sort = 1\n"),
        ("L27", "def f(n):\n    return 2 ** n\n"), ("L28", "class A:\n    def __init__(self):\n        return None\n"),
        ("L27", "X = '\\x41'\n"), ("L27", "X = " + "1" * 901 + "\n"),
        ("L28", "class A:\n    def __len__(self):\n        self.x = 1\n        return 0\n"),
    )

    def test_each_kind_of_fault_is_seen(self):
        for rule, text in self.bad:
            with self.subTest(rule=rule, text=text):
                self.assertIn(rule, [found for found, _ in faults(text)])


if __name__ == "__main__":
    unittest.main()
