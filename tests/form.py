"""Looks over the package's files for what LANGUAGE.md rules out: the rules that a look at the form can see."""

import ast
import builtins
import re

OWN_NAMES = """len range enumerate zip min max sum abs sorted reversed int str bool list tuple dict set frozenset
isinstance ord repr any all divmod Exception ValueError TypeError KeyError IndexError LookupError ZeroDivisionError
ArithmeticError OverflowError RuntimeError NotImplementedError AttributeError StopIteration""".split()

OWN_METHODS = """append clear copy count endswith extend find get index insert isalnum isalpha isdigit islower isspace
isupper items join keys ljust lower lstrip partition pop remove replace reverse rfind rjust rpartition rsplit rstrip
setdefault split splitlines startswith strip update upper values zfill bit_length""".split()

NOT_USED = """register mro elements open input version_info with_traceback add_note attrgetter breakpoint builtins compile
copyright credits delattr dir eval exec exit gc getattr globals hasattr help id importlib license locals methodcaller
os quit setattr super type vars sys __name__ format format_map sort""".split()

WORDS = re.compile(r"\b(type|typing|typing_extensions|enum|Enum|IntEnum|StrEnum|Flag|IntFlag|Generic|Protocol|ABC"
                   r"|ABCMeta|namedtuple|NamedTuple|TypedDict|TYPE_CHECKING|abstractmethod)\b"
                   r"|dataclass|overload|contextmanager")

RULED_OUT = (
    ast.Import, ast.With, ast.Match, ast.Delete, ast.Global, ast.Nonlocal, ast.Assert, ast.Yield, ast.YieldFrom,
    ast.Await, ast.AsyncFor, ast.AsyncWith, ast.AsyncFunctionDef, ast.Div, ast.MatMult, ast.Set, ast.SetComp,
    ast.DictComp, ast.GeneratorExp, ast.NamedExpr, ast.Starred, ast.AnnAssign,
)

TWO_UNDERSCORES = ("__init__", "__eq__", "__repr__", "__str__", "__len__")
KEYWORDS = {"sorted": ("key", "reverse"), "min": ("key", "default"), "max": ("key", "default"), "sum": ("start",),
            "enumerate": ("start",), "zip": ("strict",)}
WALKED = ("zip", "enumerate", "reversed", "range")
WALKED_METHODS = ("items", "keys", "values")
WALKERS = ("list", "tuple", "dict", "sorted", "sum", "any", "all", "enumerate", "zip", "min", "max")


def faults(source):
    tree = ast.parse(source)
    for node in ast.walk(tree):
        for child in ast.iter_child_nodes(node):
            child.parent = node
    found = faults_of_rows(source)
    found.extend(faults_of_top(tree))
    defined = [node.name for node in ast.walk(tree) if isinstance(node, ast.FunctionDef)]
    for node in ast.walk(tree):
        for why in faults_of_node(node, defined):
            found.append(f"row {getattr(node, 'lineno', 0)}: {why}")
    found.extend(faults_of_locals(tree))
    return found


def faults_of_rows(source):
    found = []
    rows = source.split("\n")
    if len(rows) > 401:
        found.append("L10: more than 400 rows")
    for number, row in enumerate(rows, start=1):
        if len(row) > 120:
            found.append(f"row {number}: L10: more than 120 signs")
        if any(not " " <= sign <= "~" for sign in row):
            found.append(f"row {number}: L14: a sign that is none")
        if WORDS.search(row):
            found.append(f"row {number}: L17: a word that is not used")
    return found


def faults_of_top(tree):
    found = []
    bound = []
    for place, node in enumerate(tree.body):
        docstring = place == 0 and isinstance(node, ast.Expr) and isinstance(node.value, ast.Constant)
        if not docstring and not isinstance(node, (ast.ImportFrom, ast.FunctionDef, ast.ClassDef, ast.Assign)):
            found.append(f"row {node.lineno}: L3: not at the top of a module")
        bound.extend(names_bound(node))
    found.extend(f"L15: {name} is bound twice" for name in bound if bound.count(name) > 1)
    return found


def names_bound(node):
    if isinstance(node, ast.ImportFrom):
        return [one.asname or one.name for one in node.names]
    if isinstance(node, (ast.FunctionDef, ast.ClassDef)):
        return [node.name]
    if isinstance(node, ast.Assign):
        return [one.id for one in ast.walk(node) if isinstance(one, ast.Name) and isinstance(one.ctx, ast.Store)]
    return []


def faults_of_locals(tree):
    """L15: no parameter and no local is called like something that the file binds at its top."""
    taken = [name for node in tree.body for name in names_bound(node)]
    for node in ast.walk(tree):
        if isinstance(node, ast.arg) and node.arg in taken:
            yield f"row {node.lineno}: L15: {node.arg}"
        if isinstance(node, ast.Name) and isinstance(node.ctx, ast.Store) and node.id in taken:
            if not isinstance(node.parent, ast.Assign) or node.parent not in tree.body:
                yield f"row {node.lineno}: L15: {node.id}"


def faults_of_node(node, defined):
    if isinstance(node, RULED_OUT):
        yield f"L6, L7: {node.__class__.__name__}"
    if isinstance(node, ast.ImportFrom) and (node.level or not node.module.startswith("acre.")):
        yield "L2: not from the package"
    if isinstance(node, (ast.For, ast.While)) and node.orelse:
        yield "L6: else behind a loop"
    if isinstance(node, ast.Try):
        yield from faults_of_try(node)
    if isinstance(node, ast.Assign) and len(node.targets) > 1:
        yield "L6: more than one target"
    if isinstance(node, ast.Constant):
        yield from faults_of_constant(node.value)
    if isinstance(node, ast.Name):
        yield from faults_of_name(node.id)
        if hasattr(builtins, node.id) and (node.id not in OWN_NAMES or not isinstance(node.ctx, ast.Load)):
            yield f"L8: {node.id}"
        if node.id in OWN_NAMES + ["set", "frozenset"] and not stands_rightly(node):
            yield f"L22: {node.id} is not called"
    if isinstance(node, (ast.FunctionDef, ast.ClassDef, ast.Lambda)):
        yield from faults_of_def(node)
    if isinstance(node, ast.Compare):
        yield from faults_of_is(node)
    if isinstance(node, ast.Attribute) and node.attr in NOT_USED:
        yield f"L17: {node.attr}"
    if isinstance(node, ast.ListComp) and (len(node.generators) > 1 or len(node.generators[0].ifs) > 1):
        yield "L7: a comprehension with more than one for and one if"
    if isinstance(node, ast.FormattedValue) and (not isinstance(node.value, ast.Name) or node.format_spec):
        yield "L7: an f-string that is not plain"
    if isinstance(node, ast.BinOp) and isinstance(node.op, ast.Pow) and not isinstance(node.right, ast.Constant):
        yield "L27: an exponent that is not written"
    if isinstance(node, ast.Call):
        yield from faults_of_call(node, defined)


def faults_of_constant(value):
    if isinstance(value, (float, complex, bytes)):
        yield "L7: not a whole number, text, truth or None"
    if isinstance(value, str) and "%" in value:
        yield "L27: a sign that stands in no text"


def faults_of_try(node):
    if node.finalbody:
        yield "L6: finally"
    for handler in node.handlers:
        if not isinstance(handler.type, ast.Name) or handler.type.id in ("Exception", "TypeError", "ValueError"):
            yield "L19: not a named error of the program's own"


def stands_rightly(node):
    if isinstance(node.parent, ast.Call):
        if node.parent.func is node:
            return node.id not in ("set", "frozenset") or told_at_once(node.parent)
        return isinstance(node.parent.func, ast.Name) and node.parent.func.id == "isinstance"
    if isinstance(node.parent, ast.keyword):
        return node.parent.arg == "key"
    return isinstance(node.parent, (ast.Tuple, ast.ClassDef, ast.ExceptHandler))


def told_at_once(node):
    """L24, in the form that is used: a set straight within sorted or len."""
    parent = node.parent
    if not isinstance(parent, ast.Call) or not isinstance(parent.func, ast.Name) or parent.keywords:
        return False
    return parent.func.id in ("sorted", "len")


def faults_of_call(node, defined):
    keywords = [one.arg for one in node.keywords]
    if isinstance(node.func, ast.Attribute):
        if node.func.attr not in OWN_METHODS + defined:
            yield f"L25: {node.func.attr}"
        if keywords:
            yield "L22: a keyword at a method"
        if node.func.attr in WALKED_METHODS and not walked_at_once(node):
            yield "L23: not walked at once"
    if isinstance(node.func, ast.Name):
        if any(one not in KEYWORDS.get(node.func.id, ()) for one in keywords):
            yield "L22: a keyword that is not there"
        if node.func.id in WALKED and not walked_at_once(node):
            yield "L23: not walked at once"


def walked_at_once(node):
    parent = node.parent
    if isinstance(parent, (ast.For, ast.comprehension)):
        return parent.iter is node
    return isinstance(parent, ast.Call) and isinstance(parent.func, ast.Name) and parent.func.id in WALKERS


def faults_of_name(name):
    if name.startswith("_") and name not in TWO_UNDERSCORES:
        yield f"L12: {name}"
    if name in NOT_USED:
        yield f"L17: {name}"


def faults_of_def(node):
    if not isinstance(node, ast.Lambda):
        yield from faults_of_name(node.name)
        if node.decorator_list:
            yield "L4, L5: a decorator"
    if isinstance(node, ast.ClassDef):
        if len(node.bases) > 1:
            yield "L5: more than one base"
        if any(not isinstance(one, (ast.FunctionDef, ast.Pass)) for one in node.body):
            yield "L5: a value in the body of a class"
        return
    if node.end_lineno - node.lineno >= 40:
        yield "L10: more than 40 rows"
    if node.args.vararg or node.args.kwarg or node.args.kwonlyargs:
        yield "L4: parameters that are not plain"
    if getattr(node, "returns", None) or any(one.annotation for one in node.args.args):
        yield "L21: an annotation"
    for parameter in node.args.args:
        yield from faults_of_name(parameter.arg)
        if hasattr(builtins, parameter.arg):
            yield f"L15: {parameter.arg}"


def faults_of_is(node):
    for sign, right in zip(node.ops, node.comparators):
        if isinstance(sign, (ast.Is, ast.IsNot)):
            if not isinstance(right, ast.Constant) or not isinstance(right.value, (bool, type(None))):
                yield "L20: is beside another thing"


def drawn_from(source):
    """For each module that a file draws from, the names that it takes."""
    told = {}
    for node in ast.parse(source).body:
        if isinstance(node, ast.ImportFrom):
            told.setdefault(node.module, []).extend(one.name for one in node.names)
    return told


def faults_of_drawing(sources):
    """L16, of a dict from module names to their sources: names from where they are defined, and no rings."""
    found = []
    reached = {}
    for module, source in sources.items():
        reached[module] = set(drawn_from(source))
        for other, names in drawn_from(source).items():
            top = ast.parse(sources.get(other, "")).body
            defined = [one for node in top if not isinstance(node, ast.ImportFrom) for one in names_bound(node)]
            found.extend(f"{module}: L16: {name} of {other}" for name in names if name not in defined)
    for _ in sources:
        for module in sources:
            reached[module] |= {far for near in reached[module] for far in reached.get(near, ())}
    found.extend(f"{module}: L16: draws from itself" for module in sources if module in reached[module])
    return found
