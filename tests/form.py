"""Looks over a package file for what LANGUAGE.md rules out: the rules that a short look can see."""

import ast
import builtins
import re

OWN_NAMES = """len range enumerate zip min max sum abs sorted reversed int str bool list tuple dict set frozenset
isinstance ord repr any all divmod Exception ValueError TypeError KeyError IndexError LookupError ZeroDivisionError
ArithmeticError OverflowError RuntimeError NotImplementedError AttributeError StopIteration""".split()

OWN_METHODS = """append clear copy count endswith extend find get index insert isalnum isalpha isdigit islower isspace
isupper items join keys ljust lower lstrip partition pop remove replace reverse rfind rjust rpartition rsplit rstrip
setdefault split splitlines startswith strip update upper values zfill bit_length""".split()

WORDS = re.compile(r"\b(type|typing|typing_extensions|enum|Enum|IntEnum|StrEnum|Flag|IntFlag|Generic|Protocol|ABC"
                   r"|ABCMeta|namedtuple|NamedTuple|TypedDict|TYPE_CHECKING|abstractmethod)\b"
                   r"|dataclass|overload|contextmanager")

RULED_OUT = (
    ast.Import, ast.With, ast.Match, ast.Delete, ast.Global, ast.Nonlocal, ast.Assert, ast.Yield, ast.YieldFrom,
    ast.Await, ast.AsyncFor, ast.AsyncWith, ast.AsyncFunctionDef, ast.Div, ast.MatMult, ast.SetComp, ast.DictComp,
    ast.GeneratorExp, ast.NamedExpr, ast.Starred,
)

TWO_UNDERSCORES = ("__init__", "__eq__", "__repr__", "__str__", "__len__")


def faults(source):
    tree = ast.parse(source)
    found = faults_of_rows(source)
    found.extend(faults_of_top(tree))
    defined = [node.name for node in ast.walk(tree) if isinstance(node, ast.FunctionDef)]
    for node in ast.walk(tree):
        for why in faults_of_node(node, defined):
            found.append(f"row {getattr(node, 'lineno', 0)}: {why}")
    return found


def faults_of_rows(source):
    found = []
    rows = source.split("\n")
    if len(rows) > 401:
        found.append("L10: more than 400 rows")
    for number, row in enumerate(rows, start=1):
        if len(row) > 120:
            found.append(f"row {number}: L10: more than 120 signs")
        if any(not " " <= sign <= "~" for sign in row):
            found.append(f"row {number}: L14: a sign that is none")
        if WORDS.search(row):
            found.append(f"row {number}: L17: a word that is not used")
    return found


def faults_of_top(tree):
    found = []
    for place, node in enumerate(tree.body):
        docstring = place == 0 and isinstance(node, ast.Expr) and isinstance(node.value, ast.Constant)
        if not docstring and not isinstance(node, (ast.ImportFrom, ast.FunctionDef, ast.ClassDef, ast.Assign)):
            found.append(f"row {node.lineno}: L3: not at the top of a module")
    return found


def faults_of_node(node, defined):
    if isinstance(node, RULED_OUT):
        yield f"L6, L7: {node.__class__.__name__}"
    if isinstance(node, ast.ImportFrom) and (node.level or not node.module.startswith("acre.")):
        yield "L2: not from the package"
    if isinstance(node, (ast.For, ast.While)) and node.orelse:
        yield "L6: else behind a loop"
    if isinstance(node, ast.Try) and node.finalbody:
        yield "L6: finally"
    if isinstance(node, ast.Assign) and len(node.targets) > 1:
        yield "L6: more than one target"
    if isinstance(node, ast.Constant) and isinstance(node.value, (float, complex, bytes)):
        yield "L7: not a whole number, text, truth or None"
    if isinstance(node, ast.Name):
        yield from faults_of_name(node.id)
        if hasattr(builtins, node.id) and (node.id not in OWN_NAMES or not isinstance(node.ctx, ast.Load)):
            yield f"L8: {node.id}"
    if isinstance(node, (ast.FunctionDef, ast.ClassDef)):
        yield from faults_of_def(node)
    if isinstance(node, ast.Compare):
        yield from faults_of_is(node)
    if isinstance(node, ast.Call) and isinstance(node.func, ast.Attribute):
        if node.func.attr not in OWN_METHODS + defined:
            yield f"L25: {node.func.attr}"


def faults_of_name(name):
    if name.startswith("_") and name not in TWO_UNDERSCORES:
        yield f"L12: {name}"


def faults_of_def(node):
    yield from faults_of_name(node.name)
    if node.decorator_list:
        yield "L4, L5: a decorator"
    if isinstance(node, ast.ClassDef):
        if len(node.bases) > 1:
            yield "L5: more than one base"
        return
    if node.end_lineno - node.lineno >= 40:
        yield "L10: more than 40 rows"
    if node.args.vararg or node.args.kwarg or node.args.kwonlyargs:
        yield "L4: parameters that are not plain"
    for parameter in node.args.args:
        yield from faults_of_name(parameter.arg)
        if hasattr(builtins, parameter.arg):
            yield f"L15: {parameter.arg}"


def faults_of_is(node):
    for sign, right in zip(node.ops, node.comparators):
        if isinstance(sign, (ast.Is, ast.IsNot)):
            if not isinstance(right, ast.Constant) or not isinstance(right.value, (bool, type(None))):
                yield "L20: is beside another thing"
