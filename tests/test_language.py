"""The rules of LANGUAGE.md that a look at single nodes can decide. It does not replace reading them."""

import ast
import builtins
import pathlib
import re
import unittest

PACKAGE = pathlib.Path(__file__).resolve().parent.parent / "postvote"
ALLOWED_BUILTINS = set(
    "len range enumerate zip min max sum abs sorted reversed int str bool bytes list tuple dict set frozenset "
    "isinstance ord repr any all divmod iter next super property staticmethod classmethod Exception ValueError "
    "TypeError KeyError IndexError LookupError ZeroDivisionError ArithmeticError OverflowError RuntimeError "
    "NotImplementedError NotImplemented AttributeError StopIteration object float".split()
)
BARRED_WORDS = re.compile(
    r"\b(type|typing|typing_extensions|enum|Enum|IntEnum|StrEnum|Flag|IntFlag|Generic|Protocol|ABC|ABCMeta|"
    r"namedtuple|NamedTuple|TypedDict|TYPE_CHECKING|abstractmethod)\b|dataclass|overload|contextmanager"
)
BARRED_NAMES = set(
    "register mro elements open input version_info with_traceback add_note attrgetter breakpoint builtins compile "
    "copyright credits delattr dir eval exec exit gc getattr globals hasattr help id importlib license locals "
    "methodcaller os quit setattr type vars sys".split()
)
BARRED_NODES = (
    ast.Global, ast.AsyncFunctionDef, ast.AsyncFor, ast.AsyncWith, ast.Await, ast.Import, ast.Div,
)
GENERATOR_TAKERS = ("any", "all", "min", "max", "sum", "sorted")


def node_faults(node):
    """The rules that one node breaks by itself."""
    if isinstance(node, BARRED_NODES):
        yield "L2, L6 or L7"
    if isinstance(node, ast.Constant) and isinstance(node.value, (float, complex)):
        yield "L7"
    if isinstance(node, ast.ImportFrom) and (node.level or not node.module.startswith("postvote.")):
        yield "L2"
    if isinstance(node, ast.FunctionDef) and node.end_lineno - node.lineno + 1 > 40:
        yield "L10"
    if isinstance(node, ast.Compare):
        for sign, other in zip(node.ops, node.comparators):
            if isinstance(sign, (ast.Is, ast.IsNot)) and not isinstance(other, ast.Constant):
                yield "L20"
    if isinstance(node, ast.Call) and isinstance(node.func, ast.Name) and node.func.id in GENERATOR_TAKERS:
        # Bench has __eq__, so these take lists throughout.
        if any(isinstance(part, ast.GeneratorExp) for part in node.args):
            yield "L7 generator"
    if isinstance(node, ast.ExceptHandler):
        named = node.type.elts if isinstance(node.type, ast.Tuple) else [node.type]
        if not all(isinstance(one, ast.Name) and one.id not in ("Exception", "TypeError") for one in named):
            yield "L19"


def bound_names(node):
    if isinstance(node, ast.Name) and isinstance(node.ctx, ast.Store):
        yield node.id
    elif isinstance(node, ast.arg):
        yield node.arg
    elif isinstance(node, (ast.FunctionDef, ast.ClassDef)):
        yield node.name
    elif isinstance(node, ast.alias):
        yield node.asname or node.name


def name_faults(tree):
    methods = {id(part) for node in ast.walk(tree) if isinstance(node, ast.ClassDef) for part in node.body}
    for node in ast.walk(tree):
        if isinstance(node, ast.Name) and isinstance(node.ctx, ast.Load):
            if hasattr(builtins, node.id) and node.id not in ALLOWED_BUILTINS:
                yield node, "L8 " + node.id
        for name in bound_names(node):
            if id(node) in methods and name.startswith("__"):
                continue
            if name.startswith("_") or not re.fullmatch("[A-Za-z0-9_]+", name):
                yield node, "L12 " + name
            if name in BARRED_NAMES or (id(node) not in methods and hasattr(builtins, name)):
                yield node, "L15 or L17 " + name


def shadow_faults(tree):
    """Parameters and local variables that have the name of a class or an import of the file."""
    taken = {name for node in tree.body if isinstance(node, ast.ImportFrom) for part in node.names
             for name in bound_names(part)}
    taken |= {node.name for node in tree.body if isinstance(node, ast.ClassDef)}
    for function in [node for node in ast.walk(tree) if isinstance(node, ast.FunctionDef)]:
        for node in ast.walk(function):
            if isinstance(node, (ast.Name, ast.arg)) and taken.intersection(bound_names(node)):
                yield node, "L15 shadow"


def finally_faults(node):
    """What a finally contains other than plain assignments of names, attributes and literals."""
    for part in node.finalbody:
        if not isinstance(part, ast.Assign) or len(part.targets) != 1:
            yield part, "L6 finally"
            continue
        kinds = (ast.Name, ast.Attribute, ast.Constant, ast.Tuple, ast.Load, ast.Store, ast.Assign)
        if not all(isinstance(one, kinds) for one in ast.walk(part)):
            yield part, "L6 finally"


def tree_faults(tree):
    yield from shadow_faults(tree)
    for node in ast.walk(tree):
        if isinstance(node, ast.Try):
            yield from finally_faults(node)
    for node in ast.walk(tree):
        for rule in node_faults(node):
            yield node, rule
    yield from name_faults(tree)
    allowed = (ast.Expr, ast.ImportFrom, ast.FunctionDef, ast.ClassDef, ast.Assign)
    for at, node in enumerate(tree.body):
        if not isinstance(node, allowed) or (isinstance(node, ast.Expr) and at > 0):
            yield node, "L3"


def text_faults(text):
    lines = text.split("\n")
    if len(lines) > 401:
        yield 401, "L10"
    for number, line in enumerate(lines, 1):
        if len(line) > 120:
            yield number, "L10"
        if re.search("[^ -~]", line):
            yield number, "L14"
        if BARRED_WORDS.search(line):
            yield number, "L17"


BUILTIN_METHODS = set(
    "append clear copy count endswith extend find get index insert isalnum isalpha isdigit islower isspace isupper "
    "items join keys ljust lower lstrip partition pop remove replace reverse rfind rjust rpartition rsplit rstrip "
    "setdefault split splitlines startswith strip update upper values zfill bit_length add discard sort isascii".split()
)


def class_names(trees):
    """The names of all methods, of all attributes that are assigned, and of all that are read."""
    methods, assigned, read = set(), set(), set()
    for node in [node for tree in trees for node in ast.walk(tree)]:
        if isinstance(node, ast.ClassDef):
            methods.update(part.name for part in node.body if isinstance(part, ast.FunctionDef))
        elif isinstance(node, ast.Attribute):
            (assigned if isinstance(node.ctx, ast.Store) else read).add(node.attr)
    return methods, assigned, read


class Language(unittest.TestCase):
    def test_files(self):
        found = [path for path in PACKAGE.rglob("*") if "__pycache__" not in path.parts]
        self.assertIn(PACKAGE / "__init__.py", found)
        for path in found:
            self.assertRegex(path.name, r"\A(__init__|[a-z][a-z0-9_]*)\.py\Z")

    def test_rules(self):
        faults = []
        for path in sorted(PACKAGE.glob("*.py")):
            text = path.read_text("ascii")
            faults.extend((path.name, line, rule) for line, rule in text_faults(text))
            for node, rule in tree_faults(ast.parse(text)):
                faults.append((path.name, getattr(node, "lineno", 0), rule))
        self.assertEqual(faults, [])

    def test_methods_and_attributes(self):
        trees = [ast.parse(path.read_text("ascii")) for path in PACKAGE.glob("*.py")]
        methods, assigned, read = class_names(trees)
        self.assertEqual(methods & assigned, set())
        self.assertEqual(read - methods - assigned - BUILTIN_METHODS, set())
