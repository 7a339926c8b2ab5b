"""A reader of the package's sources that tells where they leave ../shared/LANGUAGE.md, as far as a walk can see it."""

import ast
import builtins
import re

OWN_NAMES = set((
    "len range enumerate zip min max sum abs sorted reversed int str bool list tuple dict set frozenset isinstance "
    "ord repr any all divmod Exception ValueError TypeError KeyError IndexError LookupError ZeroDivisionError "
    "ArithmeticError OverflowError RuntimeError NotImplementedError AttributeError StopIteration"
).split())
METHODS = set((
    "append clear copy count endswith extend find get index insert isalnum isalpha isdigit islower isspace isupper "
    "items join keys ljust lower lstrip partition pop remove replace reverse rfind rjust rpartition rsplit rstrip "
    "setdefault split splitlines startswith strip update upper values zfill bit_length"
).split())
TWO_UNDERSCORES = set("__init__ __eq__ __repr__ __str__ __len__".split())
WORDS = re.compile(
    r"\b(type|typing|typing_extensions|enum|Enum|IntEnum|StrEnum|Flag|IntFlag|Generic|Protocol|ABC|ABCMeta"
    r"|namedtuple|NamedTuple|TypedDict|TYPE_CHECKING|abstractmethod)\b|dataclass|overload|contextmanager"
)
UNUSED = set("register mro elements open input version_info with_traceback add_note format format_map".split())
STATEMENTS = (
    ast.Assign, ast.AugAssign, ast.If, ast.While, ast.For, ast.Return, ast.Break, ast.Continue, ast.Pass, ast.Raise,
    ast.Try, ast.Expr, ast.FunctionDef, ast.ClassDef, ast.ImportFrom,
)
WALKED = set("zip enumerate reversed range items keys values".split())
WALKERS = set("list tuple dict sorted sum any all enumerate zip".split())
NO_EXPRESSIONS = (
    ast.SetComp, ast.DictComp, ast.GeneratorExp, ast.NamedExpr, ast.Starred, ast.Yield, ast.YieldFrom, ast.Await,
    ast.Div, ast.MatMult,
)


def faults_of(name, source):
    tree = ast.parse(source)
    faults = sign_faults(source) + top_faults(tree, name)
    above = {below: node for node in ast.walk(tree) for below in ast.iter_child_nodes(node)}
    for node in ast.walk(tree):
        row = getattr(node, "lineno", 0)
        faults += [(rule, row) for rule in node_faults(node) + place_faults(node, above)]
    return sorted(set(faults + shadow_faults(tree)))


def sign_faults(source):
    rows = source.split("\n")
    faults = [("L10", 400)] if len(rows) > 401 else []
    for at, row in enumerate(rows, start=1):
        if len(row) > 120:
            faults.append(("L10", at))
        if any(not " " <= sign <= "~" for sign in row):
            faults.append(("L14", at))
        if WORDS.search(row):
            faults.append(("L17", at))
    return faults


def is_docstring(node):
    return isinstance(node, ast.Expr) and isinstance(node.value, ast.Constant) and isinstance(node.value.value, str)


def top_faults(tree, name):
    faults = []
    bound = []
    for at, node in enumerate(tree.body):
        if isinstance(node, ast.Assign):
            bound += [target.id for target in node.targets if isinstance(target, ast.Name)]
        elif isinstance(node, (ast.FunctionDef, ast.ClassDef)):
            bound.append(node.name)
        elif isinstance(node, ast.ImportFrom):
            bound += [alias.asname or alias.name for alias in node.names]
        elif not (at == 0 and is_docstring(node)) and name != "__main__.py":
            faults.append(("L3", node.lineno))
    return faults + [("L15", 0) for one in set(bound) if bound.count(one) > 1]


def node_faults(node):
    if isinstance(node, ast.stmt):
        return statement_faults(node)
    if isinstance(node, ast.arg):
        return name_faults(node.arg, True) + (["L21"] if node.annotation else [])
    if isinstance(node, ast.Name):
        return name_faults(node.id, isinstance(node.ctx, ast.Store))
    if isinstance(node, ast.Attribute):
        return attribute_faults(node)
    return expression_faults(node)


def statement_faults(node):
    if isinstance(node, ast.Import):
        return ["L2"]
    if not isinstance(node, STATEMENTS):
        return ["L6"]
    if isinstance(node, (ast.For, ast.While)) and node.orelse or isinstance(node, ast.Try) and node.finalbody:
        return ["L6"]
    if isinstance(node, ast.Assign) and len(node.targets) > 1:
        return ["L6"]
    if isinstance(node, ast.Expr) and not isinstance(node.value, ast.Call) and not is_docstring(node):
        return ["L6"]
    if isinstance(node, ast.ImportFrom):
        own = node.level == 0 and (node.module or "").startswith("seekpress.")
        return [] if own and all(alias.name != "*" for alias in node.names) else ["L2"]
    if isinstance(node, ast.FunctionDef):
        return def_faults(node)
    if isinstance(node, ast.ClassDef):
        return class_faults(node)
    return []


def def_faults(node):
    given = node.args
    faults = ["L4"] if node.decorator_list or given.vararg or given.kwarg or given.kwonlyargs else []
    faults += ["L10"] if node.end_lineno - node.lineno + 1 > 40 else []
    return faults + ([] if node.name in TWO_UNDERSCORES else name_faults(node.name, False))


def class_faults(node):
    faults = ["L5"] if node.decorator_list or len(node.bases) > 1 or node.keywords else []
    if not all(isinstance(part, (ast.FunctionDef, ast.Pass)) for part in node.body):
        faults.append("L5")
    return faults + name_faults(node.name, False)


def name_faults(name, stored):
    if name.startswith("_"):
        return ["L12"]
    if name in UNUSED:
        return ["L17"]
    if hasattr(builtins, name) and (stored or name not in OWN_NAMES):
        return ["L15"] if stored else ["L8"]
    return []


def attribute_faults(node):
    if node.attr in UNUSED:
        return ["L17"]
    return ["L12"] if node.attr.startswith("_") and node.attr not in TWO_UNDERSCORES else []


def expression_faults(node):
    if isinstance(node, NO_EXPRESSIONS):
        return ["L7"]
    if isinstance(node, ast.ListComp) and (len(node.generators) > 1 or len(node.generators[0].ifs) > 1):
        return ["L7"]
    if isinstance(node, ast.Constant) and isinstance(node.value, (float, complex, bytes)):
        return ["L7"]
    if isinstance(node, ast.Constant) and isinstance(node.value, str) and "%" in node.value:
        return ["L27"]
    if isinstance(node, ast.BinOp) and isinstance(node.op, ast.Pow) and not isinstance(node.right, ast.Constant):
        return ["L27"]
    if isinstance(node, ast.Compare) and any(isinstance(op, (ast.Is, ast.IsNot)) for op in node.ops):
        beside = [node.left] + node.comparators
        return [] if any(isinstance(one, ast.Constant) for one in beside) else ["L20"]
    if isinstance(node, ast.ExceptHandler):
        return ["L19"] if node.type is None or ast.unparse(node.type) in ("Exception", "TypeError") else []
    return []


def called_name(node):
    if not isinstance(node, ast.Call):
        return None
    return node.func.id if isinstance(node.func, ast.Name) else getattr(node.func, "attr", None)


def place_faults(node, above):
    name = called_name(node)
    if name in WALKED and not is_walked(node, above[node]):
        return ["L23"]
    if name == "set" and not is_set_asked(node, above):
        return ["L24"]
    if isinstance(node, ast.Attribute) and isinstance(node.ctx, ast.Store) and not isinstance(node.value, ast.Name):
        return ["L18"]
    return []


def is_walked(node, parent):
    if isinstance(parent, (ast.For, ast.comprehension)):
        return parent.iter is node
    walker = called_name(parent)
    if walker in ("min", "max"):
        return parent.args == [node]
    if walker == "join":
        return isinstance(parent.func.value, ast.Constant)
    return walker in WALKERS and parent.args[0] is node


def is_set_asked(node, above):
    parent = above[node]
    while isinstance(parent, ast.BinOp):
        parent = above[parent]
    if isinstance(parent, ast.Compare):
        return all(isinstance(op, (ast.In, ast.NotIn, ast.Eq, ast.NotEq)) for op in parent.ops)
    return called_name(parent) in ("sorted", "len") and not parent.keywords


# Parameters and locals that are called like a class or an import of their file.
def shadow_faults(tree):
    tops = {alias.name for node in tree.body if isinstance(node, ast.ImportFrom) for alias in node.names}
    tops |= {node.name for node in tree.body if isinstance(node, ast.ClassDef)}
    faults = []
    for node in ast.walk(tree):
        if isinstance(node, ast.arg) and node.arg in tops:
            faults.append(("L15", node.lineno))
        if isinstance(node, ast.Name) and isinstance(node.ctx, ast.Store) and node.id in tops:
            faults.append(("L15", node.lineno))
    return faults


def methods_and_values(sources):
    methods, values = set(), set()
    for source in sources:
        for node in ast.walk(ast.parse(source)):
            if isinstance(node, ast.ClassDef):
                methods |= {part.name for part in node.body if isinstance(part, ast.FunctionDef)}
            if isinstance(node, ast.Attribute) and isinstance(node.ctx, ast.Store):
                values.add(node.attr)
    return methods, values


def unknown_methods(sources):
    methods = methods_and_values(sources)[0]
    called = set()
    for source in sources:
        for node in ast.walk(ast.parse(source)):
            if isinstance(node, ast.Call) and isinstance(node.func, ast.Attribute):
                called.add(node.func.attr)
    return sorted(called - methods - METHODS - TWO_UNDERSCORES)


def draws(source):
    return [(node.module, alias.name) for node in ast.parse(source).body if isinstance(node, ast.ImportFrom)
            for alias in node.names]


def defined(source):
    names = [node.name for node in ast.parse(source).body if isinstance(node, (ast.FunctionDef, ast.ClassDef))]
    for node in ast.parse(source).body:
        if isinstance(node, ast.Assign):
            names += [target.id for target in node.targets]
    return names
