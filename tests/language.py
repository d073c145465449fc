"""Looks whether a package keeps to the rules L1 to L28 of ../shared/LANGUAGE.md.

findings(files) takes a dict of texts by their paths and tells a sorted list of (rule, path, line).
Where a rule can't be seen well, a narrower form is asked for: no __main__.py, no def within a def, no annotation,
of the methods with two underscores __init__ alone, and of Python's own errors no ValueError, LookupError or
IndexError is taken. How deep a recursion goes (L11) can't be seen here at all.
"""

import ast
import builtins
import os
import re

PACKAGE = "foreseehall"

ERRORS = set(
    "Exception ValueError TypeError KeyError IndexError LookupError ZeroDivisionError ArithmeticError OverflowError "
    "RuntimeError NotImplementedError AttributeError StopIteration".split()
)
KINDS = set("int str bool list tuple dict".split())
# chr stands in L8, but L27 takes it out again.
OWN_NAMES = ERRORS | KINDS | set(
    "len range enumerate zip min max sum abs sorted reversed set frozenset isinstance ord repr any all divmod".split()
)
METHODS = set(
    "append clear copy count endswith extend find get index insert isalnum isalpha isdigit islower isspace isupper "
    "items join keys ljust lower lstrip partition pop remove replace reverse rfind rjust rpartition rsplit rstrip "
    "setdefault split splitlines startswith strip update upper values zfill bit_length".split()
)
CHANGERS = set("append clear extend insert pop remove reverse setdefault update".split())
READERS = set("get items keys values index count copy".split())
READING_CALLS = set("len list dict tuple sorted sum min max any all enumerate zip reversed set".split())
WALKERS = set("zip enumerate reversed range".split())
WALKER_METHODS = set("items keys values".split())
WALKING_CALLS = set("list tuple dict sorted sum any all enumerate zip".split())
KEYWORDS = {
    "sorted": ("key", "reverse"),
    "min": ("key", "default"),
    "max": ("key", "default"),
    "sum": ("start",),
    "enumerate": ("start",),
    "zip": ("strict",),
}
KEYS = set("len int str abs sum min max tuple".split())
VALUE_NAMES = set("count index title find get join lower upper split strip copy add".split())
NOWHERE = set("register mro elements open input version_info with_traceback add_note".split())
FRAME_NAME = re.compile(r"(f|tb|co|gi|cr|ag)_[a-z]+$")
NOT_AS_NAMES = set(
    "attrgetter breakpoint builtins compile copyright credits delattr dir eval exec exit gc getattr globals hasattr "
    "help id importlib license locals methodcaller os quit setattr super type vars sys __name__".split()
)
WORDS = (
    "type typing typing_extensions enum Enum IntEnum StrEnum Flag IntFlag Generic Protocol ABC ABCMeta namedtuple "
    "NamedTuple TypedDict TYPE_CHECKING abstractmethod"
).split()
WORD = re.compile(r"(?<![A-Za-z0-9])(" + "|".join(WORDS) + r")(?![A-Za-z0-9])|dataclass|overload|contextmanager")
FILE_WORDS = set("test tests testing site conftest sitecustomize usercustomize".split()) | set(WORDS)
PLAIN_NAME = re.compile(r"[A-Za-z][A-Za-z0-9_]*$")
DOUBLE_NAMES = ("__init__", "__all__", "__version__")
STATEMENTS = (
    ast.Assign, ast.AugAssign, ast.If, ast.While, ast.For, ast.Return, ast.Break, ast.Continue, ast.Pass, ast.Raise,
    ast.Try, ast.Expr, ast.FunctionDef, ast.ClassDef, ast.ImportFrom, ast.Import, ast.AnnAssign,
)
EXPRESSIONS = (
    ast.Constant, ast.Name, ast.List, ast.Tuple, ast.Dict, ast.Set, ast.BinOp, ast.UnaryOp, ast.BoolOp, ast.Compare,
    ast.IfExp, ast.Call, ast.Attribute, ast.Subscript, ast.Slice, ast.ListComp, ast.Lambda, ast.JoinedStr,
    ast.FormattedValue,
)
OPERATORS = (
    ast.Add, ast.Sub, ast.Mult, ast.FloorDiv, ast.Mod, ast.Pow, ast.LShift, ast.RShift, ast.BitOr, ast.BitXor,
    ast.BitAnd,
)


class Source:
    """A file of the package, its tree, and what stands right above each part of the tree."""

    def __init__(self, path, text):
        self.path = path
        self.text = text
        self.tree = ast.parse(text)
        self.module = path[:-3].replace("/", ".").removesuffix(".__init__")
        self.nodes = list(ast.walk(self.tree))
        self.above = {}
        for node in self.nodes:
            for child in ast.iter_child_nodes(node):
                self.above[child] = node
        self.functions = [node for node in self.nodes if isinstance(node, ast.FunctionDef)]
        self.classes = [node for node in self.nodes if isinstance(node, ast.ClassDef)]
        self.imported = {}
        for node in self.nodes:
            if isinstance(node, ast.ImportFrom):
                for alias in node.names:
                    self.imported[alias.asname or alias.name] = (node.module, alias.name)
        self.top = [name for name, _ in top_names(self.tree)]
        self.top_values = top_values(self.tree)

    def function_of(self, node):
        while node in self.above:
            node = self.above[node]
            if isinstance(node, ast.FunctionDef):
                return node
        return None

    def is_docstring(self, node):
        body = getattr(self.above.get(node), "body", None)
        is_text = isinstance(node, ast.Expr) and isinstance(node.value, ast.Constant) and isinstance(node.value.value, str)
        return is_text and isinstance(body, list) and body[0] is node

    def of(self, *kinds):
        return [node for node in self.nodes if isinstance(node, kinds)]


class Package:
    """All files, and what only the whole of them tells."""

    def __init__(self, sources):
        self.sources = sources
        self.by_module = {source.module: source for source in sources}
        self.methods = {}
        self.values = {}
        self.class_names = set()
        for source in sources:
            for node in source.classes:
                self.class_names.add(node.name)
                for method in methods_of(node):
                    self.methods[method.name] = (source, method)
            for node in source.of(ast.Attribute):
                if isinstance(node.ctx, ast.Store):
                    self.values[node.attr] = (source, node)
        self.error_classes = error_classes(sources)

    def is_class(self, source, name):
        module, first_name = source.imported.get(name, (None, name))
        return first_name in self.class_names if module else name in [node.name for node in source.classes]


def top_names(tree):
    found = []
    for node in tree.body:
        if isinstance(node, (ast.FunctionDef, ast.ClassDef)):
            found.append((node.name, node))
        elif isinstance(node, ast.ImportFrom):
            found.extend((alias.asname or alias.name, node) for alias in node.names)
        elif isinstance(node, (ast.Assign, ast.AnnAssign)):
            targets = node.targets if isinstance(node, ast.Assign) else [node.target]
            found.extend((target.id, node) for target in targets if isinstance(target, ast.Name))
    return found


def top_values(tree):
    return {name: node.value for name, node in top_names(tree) if isinstance(node, (ast.Assign, ast.AnnAssign))}


def methods_of(node):
    return [method for method in node.body if isinstance(method, ast.FunctionDef)]


def error_classes(sources):
    found = set(ERRORS)
    nodes = [node for source in sources for node in source.classes]
    for _ in nodes:
        for node in nodes:
            if any(isinstance(base, ast.Name) and base.id in found for base in node.bases):
                found.add(node.name)
    return found


def bound_names(function):
    found = []
    for node in ast.walk(function):
        if isinstance(node, ast.arg):
            found.append((node.arg, node))
        elif isinstance(node, ast.Name) and isinstance(node.ctx, ast.Store):
            found.append((node.id, node))
        elif isinstance(node, ast.ExceptHandler) and node.name:
            found.append((node.name, node))
    return found


def identifiers(source):
    for node in source.nodes:
        for field in ("id", "arg", "attr"):
            if isinstance(getattr(node, field, None), str):
                yield getattr(node, field), node
        if isinstance(node, (ast.FunctionDef, ast.ClassDef)) or isinstance(node, ast.ExceptHandler) and node.name:
            yield node.name, node
        if isinstance(node, ast.alias):
            yield node.asname or node.name, node


def called(node, names):
    return isinstance(node, ast.Call) and isinstance(node.func, ast.Name) and node.func.id in names


def called_method(node, names):
    return isinstance(node, ast.Call) and isinstance(node.func, ast.Attribute) and node.func.attr in names


def is_call_of(source, node):
    above = source.above.get(node)
    return isinstance(above, ast.Call) and above.func is node


def is_key(source, node):
    above = source.above.get(node)
    return isinstance(above, ast.keyword) and above.arg == "key"


def is_kind_asked(source, node):
    above = source.above.get(node)
    if isinstance(above, ast.Tuple):
        node, above = above, source.above.get(above)
    return called(above, ["isinstance"]) and len(above.args) == 2 and above.args[1] is node


def is_set(node):
    if isinstance(node, ast.BinOp) and isinstance(node.op, (ast.Sub, ast.BitAnd, ast.BitOr, ast.BitXor)):
        return is_set(node.left) and is_set(node.right)
    return isinstance(node, ast.Set) or called(node, ["set", "frozenset"])


def is_plain_value(node, functions):
    if isinstance(node, ast.Constant):
        return True
    if isinstance(node, ast.UnaryOp) and isinstance(node.op, ast.USub):
        return isinstance(node.operand, ast.Constant)
    if isinstance(node, (ast.List, ast.Tuple)):
        return all(is_plain_value(entry, functions) for entry in node.elts)
    if isinstance(node, ast.Dict):
        return all(entry is not None and is_plain_value(entry, functions) for entry in node.keys + node.values)
    return isinstance(node, ast.Name) and node.id in functions


def rule_2(package):
    for source in package.sources:
        for node in source.of(ast.Import):
            yield source, node
        for node in source.of(ast.ImportFrom):
            is_own = node.level == 0 and node.module and node.module.split(".")[0] == PACKAGE
            is_future = node.module == "__future__" and [alias.name for alias in node.names] == ["annotations"]
            if not (is_own or is_future) or any(alias.name == "*" for alias in node.names):
                yield source, node
            if source.above[node] is not source.tree:
                yield source, node
        yield from late_imports(source)


def late_imports(source):
    is_begun = False
    for node in source.tree.body:
        if isinstance(node, (ast.ImportFrom, ast.Import)):
            if is_begun:
                yield source, node
        elif not source.is_docstring(node):
            is_begun = True


def rule_3(package):
    for source in package.sources:
        functions = []
        for node in source.tree.body:
            if isinstance(node, ast.FunctionDef):
                functions.append(node.name)
            elif isinstance(node, (ast.Assign, ast.AnnAssign)):
                target = node.targets[0] if isinstance(node, ast.Assign) else node.target
                if not isinstance(target, ast.Name) or not node.value or not is_plain_value(node.value, functions):
                    yield source, node
            elif not isinstance(node, (ast.ClassDef, ast.ImportFrom)) and not source.is_docstring(node):
                yield source, node


def rule_4(package):
    for source in package.sources:
        for node in source.of(ast.FunctionDef, ast.Lambda):
            told = node.args
            if told.vararg or told.kwarg or told.kwonlyargs or told.posonlyargs:
                yield source, node
            if not all(is_plain_value(value, []) for value in told.defaults):
                yield source, node
        for node in source.functions:
            if node.decorator_list or source.function_of(node):
                yield source, node


def rule_5(package):
    for source in package.sources:
        for node in source.classes:
            bases = [base.id if isinstance(base, ast.Name) else "" for base in node.bases]
            if len(bases) > 1 or node.keywords or node.decorator_list:
                yield source, node
            if not all(base in ERRORS or package.is_class(source, base) for base in bases):
                yield source, node
            for entry in node.body:
                if not isinstance(entry, (ast.FunctionDef, ast.Pass)) and not source.is_docstring(entry):
                    yield source, entry


def rule_6(package):
    for source in package.sources:
        for node in source.of(ast.stmt):
            if not isinstance(node, STATEMENTS):
                yield source, node
            if isinstance(node, (ast.While, ast.For)) and node.orelse:
                yield source, node
            if isinstance(node, ast.Assign) and len(node.targets) != 1:
                yield source, node
            if isinstance(node, ast.Try) and (node.finalbody or not all(each.type for each in node.handlers)):
                yield source, node
            if isinstance(node, ast.Expr) and not isinstance(node.value, ast.Call) and not source.is_docstring(node):
                yield source, node


def rule_7(package):
    for source in package.sources:
        for node in source.of(ast.expr):
            if not isinstance(node, EXPRESSIONS) or not is_plain_expression(source, node):
                yield source, node
        for node in source.of(ast.AugAssign):
            if not isinstance(node.op, OPERATORS):
                yield source, node


def is_plain_expression(source, node):
    if isinstance(node, ast.Constant):
        return node.value is None or isinstance(node.value, (int, str))
    if isinstance(node, ast.BinOp):
        return isinstance(node.op, OPERATORS)
    if isinstance(node, ast.ListComp):
        walk = node.generators[0]
        return len(node.generators) == 1 and len(walk.ifs) <= 1 and not walk.is_async
    if isinstance(node, ast.Dict):
        return None not in node.keys
    if isinstance(node, ast.Call):
        return all(keyword.arg for keyword in node.keywords)
    if isinstance(node, ast.Set):
        return source.function_of(node) is not None
    if isinstance(node, ast.FormattedValue):
        return isinstance(node.value, ast.Name) and node.conversion in (-1, ord("r")) and node.format_spec is None
    return True


def rule_8(package):
    for source in package.sources:
        for node in source.of(ast.Name):
            function = source.function_of(node)
            known = [name for name, _ in bound_names(function)] if function else []
            if isinstance(node.ctx, ast.Load) and node.id not in known + source.top and node.id not in OWN_NAMES:
                yield source, node
        for name, node in given_names(source):
            if name in OWN_NAMES or name.startswith("__") and name not in DOUBLE_NAMES:
                yield source, node
        for node in source.of(ast.Attribute):
            if node.attr in ("format", "format_map", "mro"):
                yield source, node
            if node.attr.startswith("__") and node.attr != "__init__":
                yield source, node


def given_names(source):
    found = top_names(source.tree)
    for function in source.functions:
        found = found + bound_names(function)
    for node in source.classes:
        found = found + [(method.name, method) for method in methods_of(node)]
    return found


def rule_9(package):
    for source in package.sources:
        for node in source.of(ast.Name):
            if node.id in ("print", "input", "open", "sys"):
                yield source, node


def rule_10(package):
    for source in package.sources:
        rows = source.text.split("\n")
        for number, row in enumerate(rows, start=1):
            if len(row) > 120 or "\t" in row or number > 401 or number == 401 and row:
                yield source, number
        for node in source.functions:
            if node.end_lineno - node.lineno + 1 > 40:
                yield source, node


def rule_11(package):
    for source in package.sources:
        for node in source.of(ast.For, ast.comprehension):
            if is_set(node.iter):
                yield source, node.iter
        for node in source.of(ast.ExceptHandler):
            if isinstance(node.type, ast.Name) and node.type.id not in ERRORS:
                continue
            for inner in ast.walk(node):
                if isinstance(inner, ast.Name) and inner.id == node.name:
                    if not isinstance(source.above[inner], ast.Raise) or source.above[inner].cause is not inner:
                        yield source, inner


def rule_12(package):
    for source in package.sources:
        for name, node in identifiers(source):
            if not PLAIN_NAME.match(name) and name not in DOUBLE_NAMES:
                yield source, node


def rule_13(package):
    for source in package.sources:
        for node in source.of(ast.Set):
            numbers = [each for each in node.elts if isinstance(each, ast.Constant) and isinstance(each.value, int)]
            if len(numbers) >= 3 and not is_asked_with_in(source, node):
                yield source, node
        seen = set()
        for node in source.of(ast.Lambda):
            told = (node.lineno, ast.dump(node.args))
            if told in seen:
                yield source, node
            seen.add(told)


def is_asked_with_in(source, node):
    above = source.above[node]
    return (
        isinstance(above, ast.Compare)
        and above.comparators[-1] is node
        and isinstance(above.ops[-1], (ast.In, ast.NotIn))
    )


def rule_14(package):
    paths = [source.path for source in package.sources]
    for source in package.sources:
        parts = source.path.split("/")
        stem = parts[-1][:-3]
        if parts[0] != PACKAGE or parts[-1].lower() != parts[-1] or stem == "__main__":
            yield source, 1
        if "/".join(parts[:-1] + ["__init__.py"]) not in paths:
            yield source, 1
        for name in [name for name in parts[1:-1] + [stem] if name != "__init__"]:
            if name in FILE_WORDS or name.startswith("test_") or hasattr(builtins, name):
                yield source, 1
        for number, row in enumerate(source.text.split("\n"), start=1):
            if not all(" " <= sign <= "~" for sign in row):
                yield source, number


def rule_15(package):
    for source in package.sources:
        names = source.top
        for name, node in top_names(source.tree):
            if names.count(name) > 1:
                yield source, node
        for node in source.classes:
            if source.above[node] is not source.tree:
                yield source, node
        for value in source.top_values.values():
            inner = [node for node in ast.walk(value) if node is not value] if is_changeable(value) else []
            if any(is_changeable(node) for node in inner):
                yield source, value
        yield from hidden_names(package, source)
        yield from kept_values(source)


def is_changeable(node):
    return isinstance(node, (ast.List, ast.Dict))


def hidden_names(package, source):
    taken = set(source.imported) | {node.name for node in source.classes}
    for function in source.functions:
        for name, node in bound_names(function):
            if name in taken or hasattr(builtins, name):
                yield source, node


def kept_values(source):
    changeable = [name for name, value in source.top_values.items() if any(map(is_changeable, ast.walk(value)))]
    for node in source.of(ast.Name):
        if node.id in changeable and source.function_of(node) and not is_only_read(source, node):
            yield source, node


def is_only_read(source, node):
    above = source.above[node]
    if isinstance(above, ast.Subscript):
        return isinstance(above.ctx, ast.Load) and above.value is node
    if isinstance(above, (ast.For, ast.comprehension)):
        return above.iter is node
    if isinstance(above, ast.Attribute):
        return above.attr in READERS and is_call_of(source, above)
    return isinstance(above, ast.Compare) or called(above, READING_CALLS)


def rule_16(package):
    for source in package.sources:
        for node in source.of(ast.Import):
            yield source, node
        for node in source.of(ast.ImportFrom):
            drawn = package.by_module.get(node.module)
            for alias in node.names:
                if node.module != "__future__" and not (drawn and is_defined(drawn, alias.name)):
                    yield source, node
        if source.path.endswith("/__init__.py"):
            below = [each.module.split(".")[-1] for each in package.sources]
            for name, node in top_names(source.tree):
                if name in below:
                    yield source, node
        if source.module in drawn_from(package, source.module):
            yield source, 1


def is_defined(source, name):
    return name in source.top and name not in source.imported


def drawn_straight(package, module):
    source = package.by_module[module]
    found = set()
    for drawn, _ in source.imported.values():
        parts = (drawn or "").split(".")
        found |= {".".join(parts[:many]) for many in range(1, len(parts) + 1)}
    return found & set(package.by_module)


def drawn_from(package, module):
    found = set()
    waiting = [module]
    while waiting:
        for drawn in drawn_straight(package, waiting.pop()) - found:
            found.add(drawn)
            waiting.append(drawn)
    return found


def rule_17(package):
    for source in package.sources:
        for name, node in identifiers(source):
            if name in NOWHERE or FRAME_NAME.match(name):
                yield source, node
            if name in NOT_AS_NAMES and not isinstance(node, ast.Attribute):
                yield source, node
        for number, row in enumerate(source.text.split("\n"), start=1):
            if WORD.search(row):
                yield source, number


def rule_18(package):
    for source in package.sources:
        for node in source.of(ast.Name):
            if isinstance(node.ctx, ast.Load) and (node.id in ERRORS or package.is_class(source, node.id)):
                if not is_class_used_plainly(source, node):
                    yield source, node
        for node in source.of(ast.Attribute):
            if isinstance(node.ctx, ast.Store):
                if not isinstance(node.value, ast.Name) or node.value.id in source.top:
                    yield source, node
        for node in source.classes:
            names = [method.name for method in methods_of(node)]
            for method in methods_of(node):
                if names.count(method.name) > 1 or method.name in package.values:
                    yield source, method
            if any(isinstance(base, ast.Name) and base.id in ("StopIteration", "AttributeError") for base in node.bases):
                yield source, node


def is_class_used_plainly(source, node):
    above = source.above[node]
    if isinstance(above, ast.Tuple) and isinstance(source.above[above], ast.ExceptHandler):
        return True
    if isinstance(above, ast.Attribute):
        return above.attr == "__init__" and is_call_of(source, above)
    if isinstance(above, ast.ClassDef):
        return node in above.bases
    return is_call_of(source, node) or is_kind_asked(source, node) or isinstance(above, (ast.ExceptHandler, ast.Raise))


def rule_19(package):
    allowed = (package.error_classes - ERRORS) | {"KeyError", "ZeroDivisionError", "StopIteration"}
    for source in package.sources:
        for node in source.of(ast.ExceptHandler):
            kinds = node.type.elts if isinstance(node.type, ast.Tuple) else [node.type]
            if not all(isinstance(kind, ast.Name) and kind.id in allowed for kind in kinds):
                yield source, node
        for node in source.of(ast.Raise):
            if not called(node.exc, package.error_classes - ERRORS) or not is_plain_cause(source, node):
                yield source, node


def is_plain_cause(source, node):
    if node.cause is None or isinstance(node.cause, ast.Constant) and node.cause.value is None:
        return True
    above = source.above[node]
    while not isinstance(above, (ast.ExceptHandler, ast.Module)):
        above = source.above[above]
    return isinstance(node.cause, ast.Name) and isinstance(above, ast.ExceptHandler) and above.name == node.cause.id


def rule_20(package):
    for source in package.sources:
        for node in source.of(ast.Compare):
            sides = [node.left] + node.comparators
            for place, operator in enumerate(node.ops):
                beside = [side for side in sides[place:place + 2] if isinstance(side, ast.Constant)]
                if isinstance(operator, (ast.Is, ast.IsNot)) and not any(
                    side.value is None or isinstance(side.value, bool) for side in beside
                ):
                    yield source, node


def rule_21(package):
    for source in package.sources:
        for node in source.of(ast.AnnAssign):
            yield source, node
        for node in source.of(ast.arg):
            if node.annotation:
                yield source, node
        for node in source.functions:
            if node.returns:
                yield source, node


def rule_22(package):
    for source in package.sources:
        for node in source.of(ast.Name):
            if node.id in OWN_NAMES - ERRORS and not is_own_name_called(source, node):
                yield source, node
        for node in source.of(ast.Call):
            if called(node, ["isinstance"]) and not asks_plain_kinds(package, source, node):
                yield source, node
            if not are_keywords_plain(package, source, node):
                yield source, node


def is_own_name_called(source, node):
    if is_kind_asked(source, node):
        return node.id in KINDS
    return is_call_of(source, node) or is_key(source, node) and node.id in KEYS


def asks_plain_kinds(package, source, node):
    if len(node.args) != 2:
        return False
    kinds = node.args[1].elts if isinstance(node.args[1], ast.Tuple) else [node.args[1]]
    names = [kind.id if isinstance(kind, ast.Name) else "" for kind in kinds]
    return all(name in KINDS | ERRORS or package.is_class(source, name) for name in names)


def are_keywords_plain(package, source, node):
    names = [keyword.arg for keyword in node.keywords]
    for keyword in node.keywords:
        value = keyword.value
        if keyword.arg in ("reverse", "strict") and called(node, OWN_NAMES):
            if not isinstance(value, ast.Constant) or not isinstance(value.value, bool):
                return False
    if called(node, OWN_NAMES):
        return all(name in KEYWORDS.get(node.func.id, ()) for name in names)
    return not names or not (called(node, package.error_classes) or called_method(node, METHODS))


def is_walker(node):
    return called(node, WALKERS) or called_method(node, WALKER_METHODS)


def rule_23(package):
    for source in package.sources:
        for node in source.nodes:
            if is_walker(node) and not is_walked_at_once(source, node):
                yield source, node
        for loop in source.of(ast.For):
            walked = [ast.dump(node) for node in walked_values(loop.iter)]
            for statement in loop.body:
                for node in ast.walk(statement):
                    if any(ast.dump(value).replace("Store()", "Load()") in walked for value in changed_values(node)):
                        yield source, node


def is_walked_at_once(source, node):
    above = source.above[node]
    if isinstance(above, (ast.For, ast.comprehension)):
        return above.iter is node
    if called(above, ["min", "max"]):
        return above.args == [node]
    if called(above, WALKING_CALLS):
        return above.args[0] is node
    return called_method(above, ["join"]) and isinstance(above.func.value, ast.Constant)


def walked_values(node):
    if called(node, ["zip", "enumerate", "reversed"]):
        return [value for each in node.args for value in walked_values(each)]
    if called_method(node, WALKER_METHODS):
        return [node.func.value]
    return [node]


def changed_values(node):
    if isinstance(node, (ast.Assign, ast.AugAssign)):
        targets = node.targets if isinstance(node, ast.Assign) else [node.target]
        plus = [node.target] if isinstance(node, ast.AugAssign) else []
        return plus + [target.value for target in targets if isinstance(target, ast.Subscript)]
    return [node.func.value] if called_method(node, CHANGERS) else []


def rule_24(package):
    for source in package.sources:
        for node in source.nodes:
            if is_set(node) and not is_set(source.above[node]) and not is_set_asked(source, node):
                yield source, node


def is_set_asked(source, node):
    above = source.above[node]
    if isinstance(above, ast.Compare):
        both = is_set(above.left) and all(is_set(each) for each in above.comparators)
        is_same = all(isinstance(operator, (ast.Eq, ast.NotEq)) for operator in above.ops)
        return is_asked_with_in(source, node) or both and is_same
    return called(above, ["sorted", "len"]) and above.args == [node] and not above.keywords


def rule_25(package):
    for source in package.sources:
        for node in source.of(ast.Attribute):
            if isinstance(node.ctx, ast.Store):
                continue
            is_method = node.attr in METHODS or node.attr in package.methods or node.attr == "__init__"
            if is_call_of(source, node):
                if not is_method:
                    yield source, node
            elif node.attr not in package.values and not (is_method and is_key(source, node)):
                yield source, node


def rule_26(package):
    taken = set()
    for kind in (str, int, list, dict, set, bytes, tuple, frozenset, bytearray):
        taken |= {name for name in dir(kind) if not name.startswith("__")}
    for name, (source, node) in package.methods.items():
        if name in taken and name not in METHODS | {"add", "discard"}:
            yield source, node
    for name, (source, node) in package.values.items():
        if name in (taken | {"args"}) - VALUE_NAMES:
            yield source, node


def rule_27(package):
    for source in package.sources:
        for node in source.of(ast.BinOp, ast.AugAssign):
            power = node.right if isinstance(node, ast.BinOp) else node.value
            if isinstance(node.op, ast.Pow) and not (isinstance(power, ast.Constant) and 0 <= power.value <= 64):
                yield source, node
        for node in source.of(ast.Constant):
            if isinstance(node.value, str) and "%" in node.value:
                yield source, node
            if isinstance(node.value, int) and node.value >= 10 ** 900:
                yield source, node
        for node in source.of(ast.Name):
            if node.id == "chr":
                yield source, node
        for found in re.finditer(r"\\(.|\n)", source.text):
            if found.group(1) not in "nt\\'\"":
                yield source, source.text.count("\n", 0, found.start()) + 1


def rule_28(package):
    for source in package.sources:
        for node in source.functions:
            if node.name.startswith("__") and node.name != "__init__":
                yield source, node
            for inner in ast.walk(node):
                if node.name == "__init__" and isinstance(inner, ast.Return) and inner.value:
                    yield source, inner


RULES = [globals()[f"rule_{number}"] for number in range(2, 29)]


def is_file_of_python(path):
    return re.match(r"[A-Za-z0-9_]+\.py$", path.split("/")[-1]) is not None


def findings(files):
    # A file that is none of Python's can't be looked at by any other rule than L1.
    found = {(1, path, 1) for path in files if not is_file_of_python(path)}
    package = Package([Source(path, text) for path, text in sorted(files.items()) if is_file_of_python(path)])
    for number, rule in enumerate(RULES, start=2):
        for source, place in rule(package):
            line = place if isinstance(place, int) else getattr(place, "lineno", 1)
            found.add((number, source.path, line))
    return sorted(found)


def package_files(root):
    """The package's files. A folder of Python's own making, __pycache__, is none of them."""
    files = {}
    for folder, below, names in os.walk(os.path.join(root, PACKAGE)):
        below[:] = [name for name in below if name != "__pycache__"]
        for name in names:
            path = os.path.join(folder, name)
            with open(path, encoding="utf-8", newline="") as file:
                files[os.path.relpath(path, root).replace(os.sep, "/")] = file.read()
    return files
