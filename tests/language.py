"""Finds what breaks the rules of LANGUAGE.md, as far as a short look can see it.

It looks at the rules that are about single places: files, imports, names,
statements, sizes. What it does not report may still break a rule.
"""

import ast
import builtins
import re
import warnings

PACKAGE = "stolenvoices"
BUILTINS = set(
    "len range enumerate zip min max sum abs sorted reversed int str bool bytes list tuple dict set"
    " isinstance ord repr any all divmod iter next map super property staticmethod classmethod"
    " Exception ValueError TypeError KeyError IndexError LookupError ZeroDivisionError"
    " ArithmeticError OverflowError RuntimeError NotImplementedError AttributeError StopIteration"
    " NotImplemented".split())
METHODS = set(
    "append clear copy count endswith extend find get index insert isalnum isalpha isdigit islower"
    " isspace isupper items join keys ljust lower lstrip partition pop remove replace reverse rfind"
    " rjust rpartition rsplit rstrip setdefault split splitlines startswith strip update upper"
    " values zfill bit_length add discard sort __init__".split())
DOUBLE = set(
    "init eq repr str len enter exit call iter lt le gt ge ne add sub mul floordiv mod and or xor"
    " iadd isub imul contains getitem setitem bool neg".split())
# These may change nothing, and call nothing that does.
STILL = {f"__{name}__" for name in DOUBLE - set("init enter exit call iter iadd isub imul setitem".split())}
CHANGING = set("append clear extend insert pop remove reverse setdefault update add discard sort".split())
LIBRARY = {
    "heapq": {"heappush", "heappop", "heapify", "heapreplace", "heappushpop"},
    "math": {"gcd", "lcm", "isqrt", "comb", "perm", "factorial"},
    "itertools": {"product", "combinations", "permutations"},
}
BARRED = set(
    "register mro elements open input law version_info with_traceback add_note type typing enum Enum"
    " IntEnum StrEnum Flag IntFlag Generic Protocol ABC ABCMeta namedtuple NamedTuple TypedDict"
    " abstractmethod dataclass overload contextmanager format_map".split())
NOT_ALLOWED = (
    ast.Global, ast.AsyncFunctionDef, ast.AsyncFor, ast.AsyncWith, ast.Await, ast.Div, ast.MatMult,
    ast.MatchClass, ast.MatchMapping, ast.Import)


def faults(source, others=None):
    """The list of what breaks a rule; others: the sources of the package by their modules."""
    # Parsing tells warnings, too; they are told as faults below.
    with warnings.catch_warnings(record=True):
        tree = ast.parse(source)
    found = text_faults(source) + module_faults(tree) + import_faults(tree, others or {})
    for node in ast.walk(tree):
        found += [f"{rule} line {getattr(node, 'lineno', 0)}" for rule in node_faults(node)]
    return found + name_faults(tree, others or {}) + class_faults(tree, others or {}) + warned(source)


def text_faults(source):
    rows = source.split("\n")
    found = ["L10 file"] if len(rows) > 400 else []
    for number, row in enumerate(rows, 1):
        if len(row) > 120 or "\t" in row:
            found.append(f"L10 line {number}")
        if not re.fullmatch("[ -~]*", row):
            found.append(f"L14 line {number}")
        if "_wall" in row or "_WallAttr" in row:
            found.append(f"L12 line {number}")
    return found


def is_docstring(node):
    return isinstance(node, ast.Expr) and isinstance(node.value, ast.Constant) \
        and isinstance(node.value.value, str)


def is_plain(node):
    if isinstance(node, (ast.List, ast.Tuple)):
        return all(is_plain(item) for item in node.elts)
    if isinstance(node, ast.Dict):
        return all(is_plain(item) for item in [*node.keys, *node.values])
    if isinstance(node, (ast.BinOp, ast.UnaryOp)):
        return True
    return isinstance(node, (ast.Constant, ast.Name))


def module_faults(tree):
    found = []
    for node in tree.body:
        good = isinstance(node, (ast.ImportFrom, ast.FunctionDef, ast.ClassDef)) or is_docstring(node)
        if isinstance(node, ast.Assign):
            good = len(node.targets) == 1 and isinstance(node.targets[0], ast.Name) \
                and is_plain(node.value)
        if not good:
            found.append(f"L3 line {node.lineno}")
    bound = [name for name, _ in module_names(tree)]
    return found + [f"L15 {name} twice" for name in sorted({n for n in bound if bound.count(n) > 1})]


def module_names(tree):
    """The names that are bound at module level, each with whether it is imported."""
    for node in tree.body:
        if isinstance(node, ast.ImportFrom):
            yield from ((item.name, True) for item in node.names)
        elif isinstance(node, (ast.FunctionDef, ast.ClassDef)):
            yield node.name, False
        elif isinstance(node, ast.Assign) and isinstance(node.targets[0], ast.Name):
            yield node.targets[0].id, False


def import_faults(tree, others):
    found = []
    seen_other = False
    for node in tree.body:
        if not isinstance(node, ast.ImportFrom):
            seen_other = seen_other or not is_docstring(node)
            continue
        names = {item.name for item in node.names}
        good = node.level == 0 and not seen_other and not any(item.asname for item in node.names)
        if node.module in LIBRARY:
            good = good and names <= LIBRARY[node.module]
        else:
            there = module_names(ast.parse(others.get(node.module, "")))
            good = good and names <= {name for name, imported in there if not imported}
        if not good:
            found.append(f"L2 or L16 line {node.lineno}")
    return found


def node_faults(node):
    """The rules that one node breaks by itself."""
    if isinstance(node, NOT_ALLOWED):
        yield "L6 or L7"
    if isinstance(node, (ast.FunctionDef, ast.ClassDef)):
        yield from definition_faults(node)
    if isinstance(node, ast.Constant):
        yield from constant_faults(node.value)
    if isinstance(node, ast.Call):
        yield from call_faults(node)
    if isinstance(node, ast.Compare):
        for op, side in zip(node.ops, node.comparators):
            fixed = isinstance(side, ast.Constant) and side.value in (None, True, False)
            if isinstance(op, (ast.Is, ast.IsNot)) and not fixed:
                yield "L20"
    if isinstance(node, ast.ExceptHandler) and (node.type is None or "Exception" in ast.dump(node.type)):
        yield "L19"
    if isinstance(node, ast.Raise) and node.exc is not None and not isinstance(node.exc, ast.Call):
        yield "L19"


def definition_faults(node):
    if isinstance(node, ast.ClassDef):
        if node.decorator_list:
            yield "L5"
        return
    if node.end_lineno - node.lineno >= 40:
        yield "L10"
    for made in node.decorator_list:
        if not re.fullmatch(r"property|staticmethod|classmethod|\w+\.setter", ast.unparse(made)):
            yield "L4"


def constant_faults(value):
    if isinstance(value, (float, complex)):
        yield "L7"
    if isinstance(value, str):
        if "%" in value or value.endswith(("._", ".__")):
            yield "L27"
        if set(re.findall(r"\w+", value)) & (BARRED - {"type"}) and "\n" not in value:
            yield "L17"


def call_faults(node):
    called = node.func
    if isinstance(called, ast.Name) and called.id in ("frozenset", "bytes", "print", "chr"):
        yield "L8"
    if isinstance(called, ast.Constant):
        yield "L7"


def own_methods(tree):
    return {item.name for node in ast.walk(tree) if isinstance(node, ast.ClassDef)
            for item in node.body if isinstance(item, ast.FunctionDef)}


def name_faults(tree, others):
    """Rules about names: L8, L12, L15, L17, L25."""
    top = dict(module_names(tree))
    closed = {name for name, imported in top.items() if imported}
    closed |= {node.name for node in tree.body if isinstance(node, ast.ClassDef)}
    methods = own_methods(tree).union(*[own_methods(ast.parse(text)) for text in others.values()])
    found = []
    for name, line, kind in all_names(tree):
        inner = name[2:-2]
        if name.startswith("__") and not (kind in ("def", "attribute", "called") and inner in DOUBLE):
            found.append(f"L8 {name} line {line}")
        if not re.fullmatch("[A-Za-z0-9_]+", name) or re.match("_(wall|pe_|dcw_|enum_|cm_|law_)", name):
            found.append(f"L12 {name} line {line}")
        if name in BARRED:
            found.append(f"L17 {name} line {line}")
        if kind in ("local", "def") and name not in methods and hasattr(builtins, name):
            found.append(f"L15 {name} line {line}")
        if kind == "local" and name in closed:
            found.append(f"L15 {name} line {line}")
        if kind == "read" and hasattr(builtins, name) and name not in BUILTINS and name not in top:
            found.append(f"L8 {name} line {line}")
        if kind == "called" and name not in METHODS | methods:
            found.append(f"L25 {name} line {line}")
    return found


def class_faults(tree, others):
    """Rules about what classes define: L5, L6, L28."""
    functions = {}
    for module in [tree, *[ast.parse(text) for text in others.values()]]:
        for node in module.body:
            if isinstance(node, ast.FunctionDef):
                functions.setdefault(node.name, []).append(node)
    found = []
    for node in ast.walk(tree):
        if isinstance(node, ast.ClassDef):
            methods = {item.name: item for item in node.body if isinstance(item, ast.FunctionDef)}
            if "__getitem__" in methods and "__iter__" not in methods:
                found.append(f"L5 line {node.lineno}")
            for method in methods.values():
                found += [f"{rule} line {method.lineno}" for rule in method_faults(method, functions)]
    return found


def method_faults(method, functions):
    decorators = [ast.unparse(item) for item in method.decorator_list]
    if method.name in STILL or "property" in decorators:
        reached, ahead = {}, [method]
        while ahead:
            node = ahead.pop()
            reached[id(node)] = node
            called = {item.func.id for item in ast.walk(node)
                      if isinstance(item, ast.Call) and isinstance(item.func, ast.Name)}
            ahead += [other for name in called for other in functions.get(name, []) if id(other) not in reached]
        if any(changes(node) for node in reached.values()):
            yield "L5"
    if method.name in STILL | {"__setitem__"} and "self(" in ast.unparse(method):
        yield "L5"
    if method.name == "__exit__" and not all(isinstance(row, (ast.Assign, ast.Pass)) or is_docstring(row)
                                             for row in method.body):
        yield "L6"
    if method.name == "__len__":
        for item in ast.walk(method):
            if isinstance(item, ast.Return) and not ast.unparse(item).startswith("return len("):
                yield "L28"


def changes(function):
    """Whether a function changes anything but its own variables."""
    for node in ast.walk(function):
        if isinstance(node, (ast.AugAssign, ast.Delete)):
            return True
        if isinstance(node, (ast.Attribute, ast.Subscript)) and isinstance(node.ctx, ast.Store):
            return True
        if isinstance(node, ast.Call) and isinstance(node.func, ast.Attribute) and node.func.attr in CHANGING:
            return True
    return False


def all_names(tree):
    """Each name with its line and its kind."""
    for node in ast.walk(tree):
        line = getattr(node, "lineno", 0)
        if isinstance(node, (ast.FunctionDef, ast.ClassDef)):
            yield node.name, line, "def"
        elif isinstance(node, ast.arg):
            yield node.arg, line, "local"
        elif isinstance(node, ast.Name):
            yield node.id, line, "read" if isinstance(node.ctx, ast.Load) else "local"
        elif isinstance(node, ast.Attribute):
            yield node.attr, line, "attribute"
        elif isinstance(node, ast.ExceptHandler) and node.name:
            yield node.name, line, "local"
        if isinstance(node, ast.Call) and isinstance(node.func, ast.Attribute):
            yield node.func.attr, line, "called"


def warned(source):
    with warnings.catch_warnings(record=True) as caught:
        warnings.simplefilter("always")
        compile(source, "source", "exec")
    return [f"L27 {item.message}" for item in caught]


def cycles(sources):
    """The modules that import from each other, straight or through others."""
    ahead = {name: {node.module for node in ast.parse(text).body if isinstance(node, ast.ImportFrom)}
             for name, text in sources.items()}
    for _ in sources:
        ahead = {name: names.union(*[ahead.get(other, set()) for other in names])
                 for name, names in ahead.items()}
    return sorted(name for name, names in ahead.items() if name in names)
