"""Tells where a source keeps outside ../shared/LANGUAGE.md, for those of its rules that a walk over the source shows."""

import ast
import builtins
import re

BUILT_IN = (
    "len range enumerate zip min max sum abs sorted reversed int str bool list tuple dict set frozenset "
    "isinstance ord repr any all divmod Exception ValueError TypeError KeyError IndexError LookupError "
    "ZeroDivisionError ArithmeticError OverflowError RuntimeError NotImplementedError AttributeError StopIteration"
).split()
METHODS = (
    "append clear copy count endswith extend find get index insert isalnum isalpha isdigit islower isspace isupper "
    "items join keys ljust lower lstrip partition pop remove replace reverse rfind rjust rpartition rsplit rstrip "
    "setdefault split splitlines startswith strip update upper values zfill bit_length add discard"
).split()
PYTHONS_OWN = {name for kind in (str, int, list, tuple, dict, set, bytes) for name in dir(kind)}
DUNDERS = ("__init__", "__eq__", "__repr__", "__str__", "__len__")
NO_ATTRIBUTES = "register mro elements open input version_info with_traceback add_note format format_map".split()
NO_WORDS = re.compile(
    r"\b(type|typing|typing_extensions|enum|Enum|IntEnum|StrEnum|Flag|IntFlag|Generic|Protocol|ABC|ABCMeta|namedtuple"
    r"|NamedTuple|TypedDict|TYPE_CHECKING|abstractmethod)\b|dataclass|overload|contextmanager"
)
NODES = (
    "Module Import ImportFrom alias FunctionDef ClassDef arguments arg Return Assign AugAssign For While If Raise Try "
    "ExceptHandler Expr Pass Break Continue BoolOp And Or Not BinOp Add Sub Mult FloorDiv Mod Pow LShift RShift BitOr "
    "BitXor BitAnd UnaryOp USub UAdd Invert Lambda IfExp Dict Set ListComp comprehension Compare Eq NotEq Lt LtE Gt "
    "GtE Is IsNot In NotIn Call keyword FormattedValue JoinedStr Constant Attribute Subscript Slice Name List Tuple "
    "Load Store"
).split()


WALKED = ("zip", "enumerate", "reversed", "range")
WALKED_METHODS = ("items", "keys", "values")
WALKERS = ("list", "tuple", "dict", "sorted", "sum", "any", "all", "enumerate", "zip", "min", "max")
KEYS = ("len", "int", "str", "abs", "sum", "min", "max", "tuple")
KEYWORDS = {
    "sorted": ("key", "reverse"), "min": ("key", "default"), "max": ("key", "default"), "sum": ("start",),
    "enumerate": ("start",), "zip": ("strict",),
}


def faults(source, package="tellworld"):
    tree = ast.parse(source)
    found = text_faults(source) + top_faults(tree, package) + name_faults(tree) + local_faults(tree)
    found.extend(clash_faults([source]))
    parents = {}
    for node in ast.walk(tree):
        for child in ast.iter_child_nodes(node):
            parents[child] = node
    classes = [node.name for node in tree.body if isinstance(node, ast.ClassDef)]
    classes.extend(name for name in imported(tree) if name[0].isupper() and not name.isupper())
    for node in ast.walk(tree):
        found.extend(node_faults(node))
        found.extend(place_faults(node, parents, classes))
    return found


def imported(tree):
    return [alias.asname or alias.name for node in tree.body if isinstance(node, ast.ImportFrom) for alias in node.names]


def local_faults(tree):
    """L15: what a parameter or a local may not be called."""
    barred = set(dir(builtins)) | set(imported(tree)) | {row.name for row in tree.body if isinstance(row, ast.ClassDef)}
    found = []
    for function in ast.walk(tree):
        if isinstance(function, (ast.FunctionDef, ast.Lambda)):
            for node in ast.walk(function):
                if isinstance(node, ast.arg) and node.arg in barred:
                    found.append(f"L15 {node.arg}, line {node.lineno}")
                if isinstance(node, ast.Name) and isinstance(node.ctx, ast.Store) and node.id in barred:
                    found.append(f"L15 {node.id}, line {node.lineno}")
    return found


def clash_faults(sources):
    """L18: names that are a method in one class and a value in another, or twice a method in one."""
    methods, values, found = set(), set(), []
    for source in sources:
        for node in ast.walk(ast.parse(source)):
            if isinstance(node, ast.ClassDef):
                own = [row.name for row in node.body if isinstance(row, ast.FunctionDef)]
                found.extend(f"L18 {name} twice" for name in set(own) if own.count(name) > 1)
                methods.update(own)
            elif isinstance(node, ast.Attribute) and isinstance(node.ctx, ast.Store):
                values.add(node.attr)
    return found + [f"L18 {name} is a method and a value" for name in sorted(methods & values)]


def place_faults(node, parents, classes):
    parent = parents.get(node)
    where = f"line {node.lineno}" if hasattr(node, "lineno") else ""
    if isinstance(node, ast.Name) and isinstance(node.ctx, ast.Load):
        if node.id in classes and not is_class_place(node, parent, parents):
            return [f"L18 class {node.id} {where}"]
        if node.id in BUILT_IN and not is_built_in_place(node, parent, parents):
            return [f"L22 {node.id} {where}"]
    if isinstance(node, ast.Call):
        return call_faults(node, parent, where)
    if isinstance(node, ast.ExceptHandler):
        return except_faults(node, where)
    if isinstance(node, ast.Set) and not (isinstance(parent, ast.Compare) and len(node.elts) < 3):
        return [f"L13 or L24 set {where}"]
    if isinstance(node, ast.FunctionDef) and node.name == "__init__":
        if any(isinstance(row, ast.Return) and row.value for row in ast.walk(node)):
            return [f"L28 __init__ {where}"]
    return []


def is_class_place(node, parent, parents):
    if isinstance(parent, ast.Tuple):
        parent = parents[parent]
        return isinstance(parent, ast.Call) and called(parent) == "isinstance"
    if isinstance(parent, ast.Call):
        return parent.func is node or called(parent) == "isinstance"
    return isinstance(parent, (ast.ClassDef, ast.ExceptHandler, ast.Raise))


def is_built_in_place(node, parent, parents):
    if is_class_place(node, parent, parents):
        return True
    return isinstance(parent, ast.keyword) and parent.arg == "key" and node.id in KEYS


def called(call):
    return call.func.id if isinstance(call.func, ast.Name) else ""


def call_faults(node, parent, where):
    name = called(node)
    method = node.func.attr if isinstance(node.func, ast.Attribute) else ""
    found = []
    if name in WALKED or (method in WALKED_METHODS and not node.args):
        if not is_walked(node, parent):
            found.append(f"L23 {name or method} {where}")
    if name == "set" and not is_set_place(node, parent):
        found.append(f"L24 {where}")
    for keyword in node.keywords:
        if (name in BUILT_IN and keyword.arg not in KEYWORDS.get(name, ())) or method in METHODS:
            found.append(f"L22 keyword {keyword.arg} {where}")
    return found


def is_walked(node, parent):
    if isinstance(parent, (ast.For, ast.comprehension)):
        return parent.iter is node
    if not isinstance(parent, ast.Call) or node not in parent.args:
        return False
    if isinstance(parent.func, ast.Attribute):
        return parent.func.attr == "join" and isinstance(parent.func.value, ast.Constant)
    return called(parent) in WALKERS and parent.args[0] is node


def is_set_place(node, parent):
    if isinstance(parent, ast.Compare):
        return True
    if isinstance(parent, ast.BinOp):
        return isinstance(parent.op, (ast.Sub, ast.BitAnd, ast.BitOr, ast.BitXor))
    return isinstance(parent, ast.Call) and called(parent) in ("sorted", "len") and not parent.keywords


def except_faults(node, where):
    names = [name.id for name in ast.walk(node.type) if isinstance(name, ast.Name)] if node.type else ["all"]
    return [f"L19 {name} {where}" for name in names if name in ("all", "Exception", "TypeError", "AttributeError")]


def text_faults(source):
    found = []
    rows = source.split("\n")
    if len(rows) > 401:
        found.append("L10 file")
    for number, row in enumerate(rows, start=1):
        if len(row) > 120:
            found.append(f"L10 line {number}")
        if any(not " " <= sign <= "~" for sign in row):
            found.append(f"L14 sign, line {number}")
        if NO_WORDS.search(row):
            found.append(f"L17 word, line {number}")
    return found


def top_faults(tree, package):
    found = []
    bound = []
    for node in tree.body:
        if isinstance(node, ast.ImportFrom):
            if node.level or not (node.module or "").startswith(package + "."):
                found.append(f"L2 import, line {node.lineno}")
            bound.extend(alias.asname or alias.name for alias in node.names)
        elif isinstance(node, (ast.FunctionDef, ast.ClassDef)):
            bound.append(node.name)
        elif isinstance(node, ast.Assign):
            bound.extend(target.id for target in node.targets if isinstance(target, ast.Name))
        elif not is_docstring(node):
            found.append(f"L3 top, line {node.lineno}")
    found.extend(f"L15 {name} twice" for name in set(bound) if bound.count(name) > 1)
    inner = [node for top in tree.body for node in ast.walk(top) if node is not top]
    found.extend("L2 inner import" for node in inner if isinstance(node, (ast.Import, ast.ImportFrom)))
    return found


def is_docstring(node):
    return isinstance(node, ast.Expr) and isinstance(node.value, ast.Constant) and isinstance(node.value.value, str)


def name_faults(tree):
    found = []
    bound = set()
    for node in ast.walk(tree):
        if isinstance(node, (ast.FunctionDef, ast.ClassDef)):
            bound.add(node.name)
        elif isinstance(node, ast.alias):
            bound.add(node.asname or node.name)
        elif isinstance(node, ast.arg):
            bound.add(node.arg)
        elif isinstance(node, ast.ExceptHandler) and node.name:
            bound.add(node.name)
        elif isinstance(node, ast.Name) and isinstance(node.ctx, ast.Store):
            bound.add(node.id)
    for name in sorted(bound):
        if name.startswith("_") and name not in DUNDERS:
            found.append(f"L12 {name}")
        if name in BUILT_IN:
            found.append(f"L8 {name} given another meaning")
    for node in ast.walk(tree):
        if isinstance(node, ast.Name) and node.id not in bound and node.id not in BUILT_IN:
            found.append(f"L8 {node.id}, line {node.lineno}")
    return found


def node_faults(node):
    kind = node.__class__.__name__
    where = f"line {node.lineno}" if hasattr(node, "lineno") else ""
    found = [] if kind in NODES else [f"L6 or L7 {kind} {where}"]
    if isinstance(node, ast.FunctionDef):
        found.extend(function_faults(node, where))
    elif isinstance(node, ast.ClassDef):
        if node.decorator_list or node.keywords or len(node.bases) > 1:
            found.append(f"L5 class {where}")
        if not all(isinstance(row, (ast.FunctionDef, ast.Pass)) or is_docstring(row) for row in node.body):
            found.append(f"L5 class body {where}")
    elif isinstance(node, ast.Attribute):
        if node.attr in NO_ATTRIBUTES or (node.attr.startswith("_") and node.attr not in DUNDERS):
            found.append(f"L17 or L12 {node.attr} {where}")
    elif isinstance(node, ast.Call) and isinstance(node.func, ast.Attribute):
        if node.func.attr in PYTHONS_OWN and node.func.attr not in METHODS + list(DUNDERS):
            found.append(f"L25 {node.func.attr} {where}")
    elif isinstance(node, ast.Compare):
        found.extend(compare_faults(node, where))
    elif isinstance(node, ast.Constant):
        if isinstance(node.value, (float, bytes, complex)) or (isinstance(node.value, str) and "%" in node.value):
            found.append(f"L7 or L27 value {where}")
    elif isinstance(node, (ast.For, ast.While)) and node.orelse or isinstance(node, ast.Try) and node.finalbody:
        found.append(f"L6 else or finally {where}")
    elif isinstance(node, ast.Assign) and len(node.targets) > 1:
        found.append(f"L6 targets {where}")
    elif isinstance(node, ast.ListComp) and (len(node.generators) > 1 or len(node.generators[0].ifs) > 1):
        found.append(f"L7 comprehension {where}")
    elif isinstance(node, ast.Expr) and not isinstance(node.value, ast.Call) and not is_docstring(node):
        found.append(f"L6 expression {where}")
    return found


def function_faults(node, where):
    given = node.args
    found = []
    if given.vararg or given.kwarg or given.kwonlyargs or given.posonlyargs or node.decorator_list:
        found.append(f"L4 function {where}")
    if node.end_lineno - node.lineno + 1 > 40:
        found.append(f"L10 function {where}")
    return found


def compare_faults(node, where):
    beside = [node.left] + node.comparators
    for place, sign in enumerate(node.ops):
        if isinstance(sign, (ast.Is, ast.IsNot)):
            two = beside[place:place + 2]
            if not any(isinstance(one, ast.Constant) and one.value in (None, True, False) for one in two):
                return [f"L20 {where}"]
    return []
