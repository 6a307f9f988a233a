"""Finds what lies outside the part of Python that the program keeps to.

What can be seen in a file's text or its tree is looked for here, often in a narrower form than
the rule has, so that a form which is doubtful is not used at all. A finding names the rule.
"""

import ast
import builtins
import re

PACKAGE = "stampsheet"

PYTHONS_OWN = """len range enumerate zip min max sum abs sorted reversed int str bool list tuple dict
set isinstance ord repr any all divmod Exception ValueError TypeError KeyError IndexError LookupError
ZeroDivisionError ArithmeticError OverflowError RuntimeError NotImplementedError StopIteration""".split()

METHODS = """append clear copy count endswith extend find get index insert isalnum isalpha isdigit islower
isspace isupper items join keys ljust lower lstrip partition pop remove replace reverse rfind rjust
rpartition rsplit rstrip setdefault split splitlines startswith strip update upper values zfill
bit_length""".split()

STEM = re.compile(r"[a-z][a-z0-9_]*")
NO_STEM = re.compile(r"tests?|testing|test_.*|site|conftest|sitecustomize|usercustomize")
NO_WORD = re.compile(
    r"\b(type|typing|typing_extensions|enum|Enum|IntEnum|StrEnum|Flag|IntFlag|Generic|Protocol|ABC|ABCMeta"
    r"|namedtuple|NamedTuple|TypedDict|TYPE_CHECKING|abstractmethod)\b|dataclass|overload|contextmanager")
NO_NAME = """register mro elements open input version_info with_traceback add_note format format_map
attrgetter breakpoint builtins compile copyright credits delattr dir eval exec exit gc getattr globals
hasattr help id importlib license locals methodcaller os quit setattr super type vars sys""".split()
ALLOWED = (
    ast.Module, ast.FunctionDef, ast.ClassDef, ast.arguments, ast.arg, ast.ImportFrom, ast.alias,
    ast.Assign, ast.AugAssign, ast.If, ast.While, ast.For, ast.Return, ast.Break, ast.Continue, ast.Pass,
    ast.Raise, ast.Try, ast.ExceptHandler, ast.Expr, ast.Call, ast.keyword, ast.Name, ast.Attribute,
    ast.Subscript, ast.Slice, ast.Constant, ast.List, ast.Tuple, ast.Dict, ast.BinOp, ast.UnaryOp,
    ast.BoolOp, ast.Compare, ast.IfExp, ast.ListComp, ast.comprehension, ast.Lambda, ast.JoinedStr,
    ast.FormattedValue, ast.expr_context, ast.operator, ast.unaryop, ast.boolop, ast.cmpop,
)
WALKED = ("zip", "enumerate", "reversed", "range")
WALKERS = ("list", "tuple", "dict", "sorted", "sum", "any", "all", "enumerate", "zip", "min", "max")
KEYS = ("len", "int", "str", "abs", "sum", "min", "max", "tuple")
KINDS = ("int", "str", "bool", "list", "tuple", "dict")
KEYWORDS = {
    "sorted": ("key", "reverse"), "min": ("key", "default"), "max": ("key", "default"),
    "sum": ("start",), "enumerate": ("start",), "zip": ("strict",),
}


def is_plain_value(node):
    if isinstance(node, (ast.List, ast.Tuple)):
        return all(is_plain_value(part) for part in node.elts)
    if isinstance(node, ast.Dict):
        return all(is_plain_value(part) for part in node.keys + node.values)
    if isinstance(node, ast.UnaryOp):
        return isinstance(node.op, ast.USub) and is_plain_value(node.operand)
    return isinstance(node, (ast.Constant, ast.Name))


def bound_at_top(tree):
    names = []
    for node in tree.body:
        if isinstance(node, (ast.FunctionDef, ast.ClassDef)):
            names.append(node.name)
        elif isinstance(node, ast.Assign):
            names.extend(target.id for target in node.targets if isinstance(target, ast.Name))
    return names


def imported(tree):
    return [alias.name for node in tree.body if isinstance(node, ast.ImportFrom) for alias in node.names]


def of_text(text):
    if re.search(r"[^ -~\n]", text):
        yield "L14 sign"
    if len(text.splitlines()) > 400 or any(len(line) > 120 for line in text.splitlines()):
        yield "L10 size"
    if NO_WORD.search(text):
        yield "L17 word"


def of_top(tree, files):
    past_imports = False
    for place, node in enumerate(tree.body):
        if isinstance(node, ast.Expr) and isinstance(node.value, ast.Constant) and place == 0:
            continue
        if isinstance(node, ast.ImportFrom):
            yield from of_import(node, files)
            if past_imports:
                yield "L2 import not at the top"
            continue
        past_imports = True
        if isinstance(node, ast.Assign):
            if not is_plain_value(node.value):
                yield "L3 value of the top"
        elif not isinstance(node, (ast.FunctionDef, ast.ClassDef)):
            yield "L3 top"
    names = bound_at_top(tree) + imported(tree)
    if len(names) != len(set(names)):
        yield "L15 name bound twice"


def of_import(node, files):
    parts = (node.module or "").split(".")
    if node.level or len(parts) != 2 or parts[0] != PACKAGE or parts[1] not in files:
        yield "L2 import"
        return
    for alias in node.names:
        if alias.asname or alias.name not in bound_at_top(files[parts[1]]):
            yield "L16 import"


def of_def(node, taken):
    given = node.args
    if given.vararg or given.kwarg or given.kwonlyargs or given.posonlyargs:
        yield "L4 parameters"
    if not all(isinstance(value, ast.Constant) for value in given.defaults):
        yield "L4 default"
    if any(arg.annotation for arg in given.args):
        yield "L21 annotation"
    for arg in given.args:
        yield from of_local(arg.arg, taken)
    if isinstance(node, ast.FunctionDef):
        if node.decorator_list or node.returns:
            yield "L4 def"
        if node.end_lineno - node.lineno + 1 > 40:
            yield "L10 size"


def of_class(node, tree):
    if node not in tree.body:
        yield "L15 class not at the top"
    if node.decorator_list or node.keywords or len(node.bases) > 1:
        yield "L5 class"
    if not all(isinstance(part, (ast.FunctionDef, ast.Pass)) for part in node.body):
        yield "L5 class body"


def of_local(name, taken):
    if name in taken or hasattr(builtins, name):
        yield f"L15 local {name}"
    if not re.fullmatch(r"[A-Za-z][A-Za-z0-9_]*", name):
        yield f"L12 {name}"


def of_call(node, parent, own):
    if isinstance(node.func, ast.Attribute):
        if node.func.attr not in METHODS and node.func.attr not in own:
            yield f"L25 {node.func.attr}"
        name = node.func.attr if node.func.attr in ("items", "keys", "values") else ""
    else:
        name = getattr(node.func, "id", "")
    for keyword in node.keywords:
        if keyword.arg is None or (name not in own and keyword.arg not in KEYWORDS.get(name, ())):
            yield "L22 keyword"
    if name in WALKED or name in ("items", "keys", "values"):
        called = isinstance(parent, ast.Call) and getattr(parent.func, "id", "") in WALKERS
        if not called and not isinstance(parent, (ast.For, ast.comprehension)):
            yield f"L23 {name}"


def is_called_or_asked(node, parent):
    if isinstance(parent, ast.Call):
        return parent.func is node or getattr(parent.func, "id", "") == "isinstance"
    if isinstance(parent, ast.keyword):
        return node.id in KEYS
    # The kinds behind isinstance may stand in a tuple.
    return isinstance(parent, ast.Tuple) and node.id in KINDS


def is_set_call(node):
    return isinstance(node, ast.Call) and getattr(node.func, "id", "") == "set"


def set_calls(node):
    """The calls of set that an expression is made of, if it is made of them alone."""
    if is_set_call(node):
        return [node]
    if isinstance(node, ast.BinOp) and isinstance(node.op, (ast.Sub, ast.BitAnd, ast.BitOr, ast.BitXor)):
        left = set_calls(node.left)
        right = set_calls(node.right)
        return left + right if left and right else []
    return []


def used_on_the_spot(node):
    if isinstance(node, ast.Call) and getattr(node.func, "id", "") in ("sorted", "len") and not node.keywords:
        return [call for part in node.args for call in set_calls(part)]
    if isinstance(node, ast.Compare) and len(node.ops) == 1:
        left = set_calls(node.left)
        right = set_calls(node.comparators[0])
        if isinstance(node.ops[0], (ast.In, ast.NotIn)):
            return right
        if isinstance(node.ops[0], (ast.Eq, ast.NotEq)) and left and right:
            return left + right
    return []


def of_sets(tree):
    used = [call for node in ast.walk(tree) for call in used_on_the_spot(node)]
    if any(is_set_call(node) and node not in used for node in ast.walk(tree)):
        yield "L24 set"


def of_expression(node, parent, known):
    if isinstance(node, ast.Constant):
        if node.value is not None and not isinstance(node.value, (int, str)):
            yield "L7 value"
        if isinstance(node.value, str) and "%" in node.value:
            yield "L27 sign"
    elif isinstance(node, ast.Name):
        if node.id in NO_NAME:
            yield f"L17 {node.id}"
        elif hasattr(builtins, node.id) and node.id not in PYTHONS_OWN:
            yield f"L8 {node.id}"
        elif node.id in PYTHONS_OWN and node.id.islower() and not is_called_or_asked(node, parent):
            yield f"L22 {node.id}"
        elif not node.id.isascii() or node.id.startswith("_"):
            yield f"L12 {node.id}"
        elif isinstance(node.ctx, ast.Store) and node.id in known:
            yield f"L15 {node.id}"
    elif isinstance(node, ast.Attribute):
        if node.attr in NO_NAME or node.attr.startswith("_") and node.attr != "__init__":
            yield f"L17 {node.attr}"
    elif isinstance(node, ast.ListComp):
        if len(node.generators) > 1 or len(node.generators[0].ifs) > 1:
            yield "L7 comprehension"
    elif isinstance(node, ast.BinOp) and isinstance(node.op, (ast.Div, ast.MatMult)):
        yield "L7 operator"
    elif isinstance(node, ast.BinOp) and isinstance(node.op, ast.Pow) and not isinstance(node.right, ast.Constant):
        yield "L27 power"
    elif isinstance(node, ast.FormattedValue):
        if not isinstance(node.value, ast.Name) or node.format_spec or node.conversion not in (-1, 114):
            yield "L7 f-string"
    elif isinstance(node, ast.Compare):
        for operator, right in zip(node.ops, node.comparators):
            if isinstance(operator, (ast.Is, ast.IsNot)):
                if not isinstance(right, ast.Constant) or right.value not in (None, True, False):
                    yield "L20 is"


def of_statement(node, own_errors, tree):
    if isinstance(node, (ast.For, ast.While)) and node.orelse:
        yield "L6 else behind a loop"
    elif isinstance(node, ast.Assign) and (len(node.targets) > 1 or isinstance(node.targets[0], ast.Tuple)):
        yield "L6 targets"
    elif isinstance(node, ast.Expr) and not isinstance(node.value, ast.Call):
        if node is not tree.body[0]:
            yield "L6 expression by itself"
    elif isinstance(node, ast.Try):
        if node.finalbody:
            yield "L6 finally"
        for handler in node.handlers:
            if not isinstance(handler.type, ast.Name) or handler.type.id not in own_errors + ["KeyError"]:
                yield "L19 except"
    elif isinstance(node, ast.Raise):
        if not isinstance(node.exc, ast.Call):
            yield "L19 raise"


def findings(text, files, own_errors=()):
    """The rules that a file's text breaks; files: the trees of the package's files, by their names."""
    tree = ast.parse(text)
    own = bound_at_top(tree) + imported(tree)
    methods = [node.name for file in files.values() for node in ast.walk(file) if isinstance(node, ast.FunctionDef)]
    known = [node.name for node in tree.body if isinstance(node, ast.ClassDef)] + imported(tree)
    found = list(of_text(text)) + list(of_top(tree, files)) + list(of_sets(tree))
    for parent in ast.walk(tree):
        for node in ast.iter_child_nodes(parent):
            if not isinstance(node, ALLOWED):
                found.append(f"L6 or L7 {node.__class__.__name__}")
            if isinstance(node, (ast.FunctionDef, ast.Lambda)):
                found.extend(of_def(node, known))
            elif isinstance(node, ast.ClassDef):
                found.extend(of_class(node, tree))
            elif isinstance(node, ast.Call):
                found.extend(of_call(node, parent, own + methods))
            if isinstance(node, ast.Name) and isinstance(node.ctx, ast.Store):
                found.extend(of_local(node.id, known))
            found.extend(of_expression(node, parent, known))
            found.extend(of_statement(node, list(own_errors), tree))
    return sorted(set(found))


def of_file_name(stem):
    if stem in ("__init__", "__main__"):
        return []
    if not STEM.fullmatch(stem) or NO_STEM.fullmatch(stem) or NO_WORD.fullmatch(stem) or hasattr(builtins, stem):
        return [f"L14 {stem}"]
    return []


def draws(files):
    """For each file those that it draws from, in whatever many steps."""
    reach = {
        stem: {node.module.split(".")[1] for node in tree.body if isinstance(node, ast.ImportFrom)}
        for stem, tree in files.items()
    }
    for step in files:
        for stem in reach:
            reach[stem] = reach[stem].union(*[reach[other] for other in reach[stem]])
    return reach
