"""The package's files keep to the part of Python that LANGUAGE.md allows, rule by rule.

Each rule has one check, L1 to L28, which finds faults in a package; beside it stand samples that the check must find
fault with. Where a rule allows more than this program needs, a check may be narrower than its rule: there are no
annotations, no __main__.py, no methods with two underscores but __init__, no recursion, and of Python's own errors
only KeyError, ZeroDivisionError and StopIteration are taken.
"""

import ast
import builtins
import io
import pathlib
import re
import tokenize
import unittest

PACKAGE = pathlib.Path(__file__).resolve().parent.parent / "officeways"
NAME = "officeways"

FUNCTIONS = set(
    "len range enumerate zip min max sum abs sorted reversed int str bool list tuple dict set frozenset isinstance "
    "ord repr any all divmod".split()
)
ERRORS = set(
    "Exception ValueError TypeError KeyError IndexError LookupError ZeroDivisionError ArithmeticError OverflowError "
    "RuntimeError NotImplementedError AttributeError StopIteration".split()
)
METHODS = set(
    "append clear copy count endswith extend find get index insert isalnum isalpha isdigit islower isspace isupper "
    "items join keys ljust lower lstrip partition pop remove replace reverse rfind rjust rpartition rsplit rstrip "
    "setdefault split splitlines startswith strip update upper values zfill bit_length".split()
)
CHANGING = set("append clear extend insert pop remove reverse setdefault update".split())
FREE_VALUES = set("count index title find get join lower upper split strip copy add".split())
WORDS_OUT = (
    "type typing typing_extensions enum Enum IntEnum StrEnum Flag IntFlag Generic Protocol ABC ABCMeta namedtuple "
    "NamedTuple TypedDict TYPE_CHECKING abstractmethod".split()
)
NOWHERE = set("register mro elements open input version_info with_traceback add_note".split())
NOT_AS_NAMES = set(
    "attrgetter breakpoint builtins compile copyright credits delattr dir eval exec exit gc getattr globals hasattr "
    "help id importlib license locals methodcaller os quit setattr super type vars sys __name__".split()
)
FILES_OUT = set("test tests testing site conftest sitecustomize usercustomize".split())
STATEMENTS = (
    ast.Assign, ast.AugAssign, ast.If, ast.While, ast.For, ast.Return, ast.Break, ast.Continue, ast.Pass, ast.Raise,
    ast.Try, ast.Expr, ast.FunctionDef, ast.ClassDef, ast.ImportFrom,
)
EXPRESSIONS = (
    ast.Constant, ast.List, ast.Tuple, ast.Dict, ast.Set, ast.BinOp, ast.UnaryOp, ast.BoolOp, ast.Compare, ast.IfExp,
    ast.Call, ast.Attribute, ast.Subscript, ast.Slice, ast.ListComp, ast.JoinedStr, ast.FormattedValue, ast.Name,
    ast.Lambda,
)
KEYWORDS = {
    "sorted": ("key", "reverse"), "min": ("key", "default"), "max": ("key", "default"), "sum": ("start",),
    "enumerate": ("start",), "zip": ("strict",),
}
AS_KEY = set("len int str abs sum min max tuple".split())
WALKED = set("zip enumerate reversed range".split())
WALKED_METHODS = set("items keys values".split())
WALKERS = set("list tuple dict sorted sum any all enumerate zip".split())
PYTHONS_OWN = set()
for kind in (str, int, list, dict, set, frozenset, tuple, bytes):
    PYTHONS_OWN.update(dir(kind))


class Source:
    """One file: its text, its nodes, and for each node the one that holds it."""

    def __init__(self, name, written):
        self.name = name
        self.written = written
        self.tree = ast.parse(written)
        self.nodes = list(ast.walk(self.tree))
        self.holder = {child: node for node in self.nodes for child in ast.iter_child_nodes(node)}
        self.classes = {node.name: node for node in self.of(ast.ClassDef)}
        self.imports = [name.asname or name.name for node in self.of(ast.ImportFrom) for name in node.names]

    def of(self, *kinds):
        return [node for node in self.nodes if isinstance(node, kinds)]

    def around(self, node):
        """The function or class that a node stands in, or the file's top."""
        node = self.holder.get(node)
        while node is not None and not isinstance(node, (ast.FunctionDef, ast.Lambda, ast.ClassDef, ast.Module)):
            node = self.holder[node]
        return node

    def at_top(self, node):
        return isinstance(self.around(node), ast.Module)

    def tops(self):
        """The names bound at the file's top, each with its node, as often as it is bound."""
        for node in self.tree.body:
            if isinstance(node, (ast.FunctionDef, ast.ClassDef)):
                yield node.name, node
            elif isinstance(node, ast.Assign):
                for target in node.targets:
                    if isinstance(target, ast.Name):
                        yield target.id, node
            elif isinstance(node, (ast.Import, ast.ImportFrom)):
                for name in node.names:
                    yield name.asname or name.name, node

    def bound(self):
        """All names that the file binds, with their nodes."""
        for node in self.nodes:
            if isinstance(node, ast.Name) and isinstance(node.ctx, ast.Store):
                yield node.id, node
            elif isinstance(node, ast.arg):
                yield node.arg, node
            elif isinstance(node, (ast.FunctionDef, ast.ClassDef)):
                yield node.name, node
            elif isinstance(node, ast.ExceptHandler) and node.name:
                yield node.name, node
            elif isinstance(node, ast.alias):
                yield node.asname or node.name, node


class Package:

    def __init__(self, files):
        self.files = files
        self.sources = [Source(name, files[name]) for name in sorted(files) if name.endswith(".py")]
        self.by_name = {source.name: source for source in self.sources}
        self.classes = {name for source in self.sources for name in source.classes}
        nodes = [node for source in self.sources for node in source.nodes]
        bodies = [row for node in nodes if isinstance(node, ast.ClassDef) for row in node.body]
        self.methods = {row.name for row in bodies if isinstance(row, ast.FunctionDef)}
        self.values = {
            node.attr for node in nodes if isinstance(node, ast.Attribute) and isinstance(node.ctx, ast.Store)
        }

    def error_classes(self):
        """The package's own classes that stand under an error class, in whatever many steps."""
        found = set(ERRORS)
        for turn in self.classes:
            for source in self.sources:
                for name, node in source.classes.items():
                    if any(isinstance(base, ast.Name) and base.id in found for base in node.bases):
                        found.add(name)
        return found - ERRORS


def called(node):
    """The plain name that a call calls, or None."""
    if isinstance(node, ast.Call) and isinstance(node.func, ast.Name):
        return node.func.id
    return None


def method_called(node):
    if isinstance(node, ast.Call) and isinstance(node.func, ast.Attribute):
        return node.func.attr
    return None


def plain(node, functions=()):
    """Whether a node is a plain value in the sense of L3."""
    if isinstance(node, ast.Constant):
        return node.value is None or isinstance(node.value, (int, str))
    if isinstance(node, ast.UnaryOp):
        return isinstance(node.op, ast.USub) and plain(node.operand)
    if isinstance(node, (ast.List, ast.Tuple)):
        return all(plain(part, functions) for part in node.elts)
    if isinstance(node, ast.Dict):
        return all(plain(part, functions) for part in node.keys + node.values)
    return isinstance(node, ast.Name) and node.id in functions


def docstring(node):
    return isinstance(node, ast.Expr) and isinstance(node.value, ast.Constant) and isinstance(node.value.value, str)


def check_l1(package):
    for name in package.files:
        if not re.fullmatch(r"(\w+/)*[A-Za-z0-9_]+\.py", name):
            yield name, 0, "a file that is no plain .py file"


def check_l2(package):
    for source in package.sources:
        for node in source.of(ast.Import, ast.ImportFrom):
            if node not in source.tree.body:
                yield source.name, node.lineno, "an import that does not stand at the top"
            if isinstance(node, ast.Import):
                yield source.name, node.lineno, "an import that is not from the package"
            elif node.module != "__future__":
                if node.level or not (node.module or "").startswith(NAME + "."):
                    yield source.name, node.lineno, "an import from elsewhere"
                if any(name.name == "*" for name in node.names) or "__main__" in (node.module or ""):
                    yield source.name, node.lineno, "an import of all, or of __main__"


def check_l3(package):
    for source in package.sources:
        functions = []
        for at, node in enumerate(source.tree.body):
            if isinstance(node, ast.FunctionDef):
                functions.append(node.name)
            elif isinstance(node, ast.Assign):
                if not isinstance(node.targets[0], ast.Name) or not plain(node.value, functions):
                    yield source.name, node.lineno, "no plain value"
            elif not isinstance(node, (ast.ImportFrom, ast.ClassDef)) and not (at == 0 and docstring(node)):
                yield source.name, node.lineno, "something else at the top of a file"


def check_l4(package):
    for source in package.sources:
        for node in source.of(ast.FunctionDef, ast.Lambda):
            given = node.args
            if given.vararg or given.kwarg or given.kwonlyargs or given.posonlyargs:
                yield source.name, node.lineno, "parameters that are not plain"
            if not all(plain(value) for value in given.defaults):
                yield source.name, node.lineno, "a default that is not plain"
            if isinstance(node, ast.FunctionDef) and node.decorator_list:
                yield source.name, node.lineno, "a decorator"


def check_l5(package):
    allowed = package.classes | ERRORS
    for source in package.sources:
        for node in source.of(ast.ClassDef):
            if node.decorator_list or node.keywords or len(node.bases) > 1:
                yield source.name, node.lineno, "a decorator, a keyword or a second base"
            for base in node.bases:
                if not isinstance(base, ast.Name) or base.id not in allowed:
                    yield source.name, node.lineno, "a base that is neither the package's own nor an error class"
            for row in node.body:
                if not isinstance(row, (ast.FunctionDef, ast.Pass)) and not docstring(row):
                    yield source.name, row.lineno, "a value in a class body"
                if isinstance(row, ast.FunctionDef) and row.name.startswith("__") and row.name != "__init__":
                    yield source.name, row.lineno, "a method with two underscores"


def check_l6(package):
    for source in package.sources:
        for node in source.of(ast.stmt):
            if not isinstance(node, STATEMENTS):
                yield source.name, node.lineno, "a statement that is not used"
            if isinstance(node, ast.Assign) and (
                len(node.targets) > 1 or not isinstance(node.targets[0], (ast.Name, ast.Attribute, ast.Subscript))
            ):
                yield source.name, node.lineno, "more than one target"
            if isinstance(node, (ast.For, ast.While)) and node.orelse:
                yield source.name, node.lineno, "else behind a loop"
            if isinstance(node, ast.Try) and (node.finalbody or any(handler.type is None for handler in node.handlers)):
                yield source.name, node.lineno, "finally, or except without a name"
            if isinstance(node, ast.Expr) and not isinstance(node.value, ast.Call) and not docstring(node):
                yield source.name, node.lineno, "a value by itself"


def check_l7(package):
    for source in package.sources:
        for node in source.of(ast.expr):
            if not isinstance(node, EXPRESSIONS):
                yield source.name, node.lineno, "an expression that is not used"
            if isinstance(node, ast.Constant) and not (node.value is None or isinstance(node.value, (int, str))):
                yield source.name, node.lineno, "a value that is no whole number and no text"
            if isinstance(node, ast.BinOp) and isinstance(node.op, (ast.Div, ast.MatMult)):
                yield source.name, node.lineno, "an operator that is not used"
            if isinstance(node, ast.ListComp) and (len(node.generators) > 1 or len(node.generators[0].ifs) > 1):
                yield source.name, node.lineno, "more than one for or if"
            if isinstance(node, ast.FormattedValue) and (
                not isinstance(node.value, ast.Name) or node.conversion not in (-1, ord("r")) or node.format_spec
            ):
                yield source.name, node.lineno, "more than a name in an f-string"
            if isinstance(node, ast.Set) and source.at_top(node):
                yield source.name, node.lineno, "a set at the top of a file"
        for node in source.of(ast.AugAssign):
            if isinstance(node.op, (ast.Div, ast.MatMult)):
                yield source.name, node.lineno, "an operator that is not used"


def check_l8(package):
    for source in package.sources:
        bound = {name for name, node in source.bound()}
        for name, node in source.bound():
            if name in FUNCTIONS | ERRORS:
                yield source.name, node.lineno, f"another meaning for {name}"
            if name.startswith("__") and name != "__init__":
                yield source.name, node.lineno, f"the name {name}"
        for node in source.of(ast.Name):
            if node.id not in FUNCTIONS | ERRORS | bound:
                yield source.name, node.lineno, f"the name {node.id}"
        for node in source.of(ast.Attribute):
            if node.attr in ("format", "format_map", "mro"):
                yield source.name, node.lineno, f"the attribute {node.attr}"


def check_l9(package):
    for source in package.sources:
        if source.name.endswith("__main__.py"):
            yield source.name, 1, "the document asks for no __main__.py"
        for node in source.of(ast.Name):
            if node.id in ("print", "input", "open", "sys"):
                yield source.name, node.lineno, "input or output"
        for node in source.of(ast.Import, ast.ImportFrom):
            if not isinstance(node, ast.ImportFrom) or node.module.split(".")[0] not in (NAME, "__future__"):
                yield source.name, node.lineno, "something from outside"


def check_l10(package):
    for source in package.sources:
        rows = source.written.splitlines()
        if len(rows) > 400:
            yield source.name, 401, "more than 400 lines"
        for at, row in enumerate(rows, 1):
            if len(row) > 120 or "\t" in row:
                yield source.name, at, "a long line, or a tab"
        for node in source.of(ast.FunctionDef):
            if node.end_lineno - node.lineno + 1 > 40:
                yield source.name, node.lineno, "a function of more than 40 lines"


def recursive(package):
    """The names of functions and methods that call themselves, in whatever many steps."""
    calls = {}
    for source in package.sources:
        for node in source.of(ast.FunctionDef):
            inner = [called(part) or method_called(part) for part in ast.walk(node)]
            calls.setdefault(node.name, set()).update(inner)
    grown = True
    while grown:
        grown = False
        for name, behind in calls.items():
            more = set().union(*[calls.get(other, set()) for other in behind]) - behind
            behind.update(more)
            grown = grown or bool(more)
    return {name for name, behind in calls.items() if name in behind}


def makes_set(node):
    return isinstance(node, (ast.Set, ast.SetComp)) or called(node) in ("set", "frozenset")


def check_l11(package):
    again = recursive(package)
    for source in package.sources:
        for node in source.of(ast.FunctionDef):
            if node.name in again:
                yield source.name, node.lineno, "a recursion"
        for node in source.of(ast.For, ast.comprehension):
            if makes_set(node.iter):
                yield source.name, node.target.lineno, "a walk through a set"
        for node in source.of(ast.Call):
            if method_called(node) == "pop" and makes_set(node.func.value):
                yield source.name, node.lineno, "pop from a set"
        for node in source.of(ast.ExceptHandler):
            if node.name and isinstance(node.type, ast.Name) and node.type.id in ERRORS:
                yield source.name, node.lineno, "an error of Python's own with its words"


def check_l12(package):
    for source in package.sources:
        names = list(source.bound())
        names += [(node.attr, node) for node in source.of(ast.Attribute)]
        names += [(node.arg, node.value) for node in source.of(ast.keyword) if node.arg]
        for name, node in names:
            if name != "__init__" and not re.fullmatch("[A-Za-z][A-Za-z0-9_]*", name):
                yield source.name, node.lineno, f"the name {name}"


def check_l13(package):
    for source in package.sources:
        for node in source.of(ast.Set):
            whole = [part for part in node.elts if isinstance(part, ast.Constant) and isinstance(part.value, int)]
            holder = source.holder[node]
            asked = isinstance(holder, ast.Compare) and isinstance(holder.ops[-1], (ast.In, ast.NotIn))
            if len(whole) >= 3 and not asked:
                yield source.name, node.lineno, "a written set of whole numbers"
        seen = set()
        for node in source.of(ast.Lambda):
            mark = (node.lineno, ast.dump(node.args))
            if mark in seen:
                yield source.name, node.lineno, "two lambdas alike on one line"
            seen.add(mark)


def check_l14(package):
    folders = {name.rpartition("/")[0] for name in package.files}
    for folder in folders:
        if (folder + "/__init__.py").lstrip("/") not in package.files:
            yield folder, 0, "a folder without __init__.py"
    for name, written in package.files.items():
        words = name.removesuffix(".py").split("/")
        for word in words:
            out = word in FILES_OUT or word.startswith("test_") or word in WORDS_OUT or word in dir(builtins)
            if out or word != word.lower() or (word == "__main__" and len(words) > 1):
                yield name, 0, "a file's name"
        if not re.fullmatch("[ -~\n]*", written):
            yield name, 0, "a sign that is none from the blank to ~"


READING = set("len list tuple dict sorted sum any all min max enumerate zip reversed set".split())
READING_METHODS = set("get items keys values index count copy".split())


def only_read(source, node):
    """Whether a list or dict of the file's top is only read where this name stands."""
    holder = source.holder[node]
    if isinstance(holder, ast.Subscript):
        return holder.value is node and isinstance(holder.ctx, ast.Load)
    if isinstance(holder, (ast.For, ast.comprehension)):
        return holder.iter is node
    if isinstance(holder, ast.Attribute):
        return holder.attr in READING_METHODS and method_called(source.holder[holder]) == holder.attr
    return isinstance(holder, ast.Compare) or called(holder) in READING


def check_l15(package):
    for source in package.sources:
        tops = list(source.tops())
        for at, (name, node) in enumerate(tops):
            if name in [other for other, earlier in tops[:at]]:
                yield source.name, node.lineno, f"{name} is bound twice"
        kept = {}
        for name, node in tops:
            if isinstance(node, ast.Assign) and isinstance(node.value, (ast.List, ast.Dict)):
                kept[name] = node
                if any(isinstance(part, (ast.List, ast.Dict)) for part in ast.walk(node.value) if part != node.value):
                    yield source.name, node.lineno, "a list or dict within one"
        for node in source.of(ast.Name):
            if node.id in kept and not source.at_top(node) and not only_read(source, node):
                yield source.name, node.lineno, f"{node.id} is not only read"
        for node in source.of(ast.ClassDef):
            if not source.at_top(node):
                yield source.name, node.lineno, "a class that does not stand at the top"
        for name, node in source.bound():
            method = isinstance(source.holder.get(node), ast.ClassDef)
            if name in dir(builtins) and not method:
                yield source.name, node.lineno, f"{name} is a name of Python's own"
            local = isinstance(node, (ast.Name, ast.arg)) and not source.at_top(node)
            if local and (name in source.classes or name in source.imports):
                yield source.name, node.lineno, f"{name} is a class or an import of the file"


def drawn_from(source):
    """The files that a file draws from."""
    found = set()
    for node in source.of(ast.ImportFrom):
        if node.module and node.module.startswith(NAME + "."):
            found.add(node.module.removeprefix(NAME + ".").replace(".", "/") + ".py")
            found.add("__init__.py")
    return found - {source.name} if source.name != "__init__.py" else found - {"__init__.py"}


def check_l16(package):
    drawn = {source.name: drawn_from(source) for source in package.sources}
    for turn in drawn:
        for name in drawn:
            drawn[name] = drawn[name].union(*[drawn.get(other, set()) for other in drawn[name]])
    for source in package.sources:
        if source.name in drawn[source.name]:
            yield source.name, 1, "two files draw from one another"
        for node in source.of(ast.Import):
            yield source.name, node.lineno, "a plain import"
        for node in source.of(ast.ImportFrom):
            home = package.by_name.get((node.module or "").removeprefix(NAME + ".").replace(".", "/") + ".py")
            defined = [name for name, top in home.tops() if not isinstance(top, ast.ImportFrom)] if home else []
            for name in node.names:
                if node.module != "__future__" and name.name not in defined:
                    yield source.name, node.lineno, f"{name.name} is not defined there"
        if source.name == "__init__.py":
            files = {name.removesuffix(".py").split("/")[0] for name in package.files}
            for name, node in source.tops():
                if name in files:
                    yield source.name, node.lineno, f"{name} is a file's name"


def check_l17(package):
    for source in package.sources:
        names = list(source.bound()) + [(node.id, node) for node in source.of(ast.Name)]
        attributes = [(node.attr, node) for node in source.of(ast.Attribute)]
        for name, node in names + attributes:
            if name in NOWHERE or re.match("(f|tb|co|gi|cr|ag)_", name):
                yield source.name, node.lineno, f"the name {name}"
        for name, node in names:
            if name in NOT_AS_NAMES:
                yield source.name, node.lineno, f"the name {name}"
        for at, row in enumerate(source.written.splitlines(), 1):
            if re.search(r"\b(" + "|".join(WORDS_OUT) + r")\b|dataclass|overload|contextmanager", row):
                yield source.name, at, "a word that stands nowhere"


def class_in_its_place(source, node):
    holder = source.holder[node]
    if isinstance(holder, ast.Tuple):
        node, holder = holder, source.holder[holder]
        return isinstance(holder, ast.ExceptHandler) or (called(holder) == "isinstance" and node in holder.args[1:])
    if isinstance(holder, ast.Call):
        return holder.func is node or (called(holder) == "isinstance" and node in holder.args[1:])
    if isinstance(holder, ast.Attribute):
        return holder.attr == "__init__"
    return isinstance(holder, (ast.ClassDef, ast.ExceptHandler, ast.Raise))


def check_l18(package):
    errors = package.error_classes()
    for name in sorted(package.methods & package.values):
        yield "", 0, f"{name} is a method and a value"
    for source in package.sources:
        own = package.classes & (set(source.classes) | set(source.imports))
        tops = {name for name, node in source.tops()}
        for node in source.of(ast.Name):
            if isinstance(node.ctx, ast.Load) and node.id in own | ERRORS and not class_in_its_place(source, node):
                yield source.name, node.lineno, f"the class {node.id} is handed on"
        for node in source.of(ast.Attribute):
            if isinstance(node.ctx, ast.Store) and isinstance(node.value, ast.Name) and node.value.id in tops:
                yield source.name, node.lineno, "a value is given to a name of the file's top"
        for name, node in source.classes.items():
            rows = [row.name for row in node.body if isinstance(row, ast.FunctionDef)]
            if len(rows) != len(set(rows)):
                yield source.name, node.lineno, "a method stands twice"
            bases = [base.id for base in node.bases if isinstance(base, ast.Name)]
            if name in errors and ("StopIteration" in bases or "AttributeError" in bases):
                yield source.name, node.lineno, "an error class under an error that is not used so"


def check_l19(package):
    allowed = package.error_classes() | {"KeyError", "ZeroDivisionError", "StopIteration"}
    for source in package.sources:
        for node in source.of(ast.ExceptHandler):
            taken = node.type.elts if isinstance(node.type, ast.Tuple) else [node.type]
            for part in taken:
                if not isinstance(part, ast.Name) or part.id not in allowed:
                    yield source.name, node.lineno, "an error that is not taken"
        for node in source.of(ast.Raise):
            if called(node.exc) is None or called(node.exc) not in package.error_classes() | ERRORS:
                yield source.name, node.lineno, "an error that is not made on the spot"
            handler = source.holder.get(node)
            while handler is not None and not isinstance(handler, (ast.ExceptHandler, ast.FunctionDef)):
                handler = source.holder.get(handler)
            own = getattr(handler, "name", None) if isinstance(handler, ast.ExceptHandler) else None
            cause = node.cause
            if cause is not None and not (isinstance(cause, ast.Constant) and cause.value is None):
                if not isinstance(cause, ast.Name) or cause.id != own:
                    yield source.name, node.lineno, "from something else than the handler's own"


def check_l20(package):
    for source in package.sources:
        for node in source.of(ast.Compare):
            parts = [node.left] + node.comparators
            for at, op in enumerate(node.ops):
                beside = [part for part in parts[at:at + 2] if isinstance(part, ast.Constant)]
                single = [part for part in beside if part.value is None or isinstance(part.value, bool)]
                if isinstance(op, (ast.Is, ast.IsNot)) and not single:
                    yield source.name, node.lineno, "is beside something else"


def check_l21(package):
    for source in package.sources:
        for node in source.of(ast.AnnAssign):
            yield source.name, node.lineno, "an annotation"
        for node in source.of(ast.FunctionDef):
            if node.returns or any(part.annotation for part in ast.walk(node.args) if isinstance(part, ast.arg)):
                yield source.name, node.lineno, "an annotation"


ISINSTANCE = set("int str bool list tuple dict".split())


def check_l22(package):
    kinds = ISINSTANCE | ERRORS | package.classes
    for source in package.sources:
        for node in source.of(ast.Name):
            if node.id not in FUNCTIONS or not isinstance(node.ctx, ast.Load):
                continue
            holder = source.holder[node]
            over = source.holder[holder] if isinstance(holder, ast.Tuple) else holder
            as_key = isinstance(holder, ast.keyword) and holder.arg == "key" and node.id in AS_KEY
            asked = called(over) == "isinstance" and node.id in kinds and node not in over.args[:1]
            if not (isinstance(holder, ast.Call) and holder.func is node) and not as_key and not asked:
                yield source.name, node.lineno, f"{node.id} is not called"
        for node in source.of(ast.Call):
            for word in node.keywords:
                name = called(node) or method_called(node)
                if name in FUNCTIONS | ERRORS and word.arg not in KEYWORDS.get(name, ()):
                    yield source.name, node.lineno, f"the keyword {word.arg} at {name}"
                if method_called(node) in METHODS or name in package.error_classes():
                    yield source.name, node.lineno, f"the keyword {word.arg} at {name}"
                if word.arg in ("reverse", "strict") and not isinstance(word.value, ast.Constant):
                    yield source.name, node.lineno, f"{word.arg} without a written True or False"
            if called(node) == "isinstance":
                told = node.args[1].elts if isinstance(node.args[1], ast.Tuple) else [node.args[1]]
                if not all(isinstance(part, ast.Name) and part.id in kinds for part in told):
                    yield source.name, node.lineno, "isinstance of something else"


def walked_on_the_spot(source, node):
    holder = source.holder[node]
    if isinstance(holder, (ast.For, ast.comprehension)):
        return holder.iter is node
    if called(holder) in WALKERS:
        return holder.args[:1] == [node]
    if called(holder) in ("min", "max"):
        return holder.args == [node]
    return method_called(holder) == "join" and isinstance(holder.func.value, ast.Constant)


def walked_values(node):
    """What a loop walks, through enumerate, zip, reversed, items and their like."""
    if called(node) in ("enumerate", "zip", "reversed"):
        return [value for part in node.args for value in walked_values(part)]
    if method_called(node) in WALKED_METHODS:
        return walked_values(node.func.value)
    return [ast.dump(node)] if isinstance(node, (ast.Name, ast.Attribute, ast.Subscript)) else []


def changed_values(node):
    """What a statement or call changes, as walked_values tells it."""
    targets = node.targets if isinstance(node, ast.Assign) else [node.target] if isinstance(node, ast.AugAssign) else []
    for target in targets:
        if isinstance(target, ast.Subscript):
            yield ast.dump(target.value)
        if isinstance(node, ast.AugAssign):
            yield re.sub("Store", "Load", ast.dump(target))
    if method_called(node) in CHANGING:
        yield ast.dump(node.func.value)


def check_l23(package):
    for source in package.sources:
        for node in source.of(ast.Call):
            once = called(node) in WALKED or method_called(node) in WALKED_METHODS
            if once and not walked_on_the_spot(source, node):
                yield source.name, node.lineno, "kept, not walked on the spot"
        for node in source.of(ast.For):
            walked = walked_values(node.iter)
            for row in node.body:
                for part in ast.walk(row):
                    if any(value in walked for value in changed_values(part)):
                        yield source.name, part.lineno, "what the loop walks is changed"


def set_in_its_place(source, node):
    holder = source.holder[node]
    while isinstance(holder, ast.BinOp) and isinstance(holder.op, (ast.Sub, ast.BitAnd, ast.BitOr, ast.BitXor)):
        node, holder = holder, source.holder[holder]
    if isinstance(holder, ast.Compare):
        parts = [holder.left] + holder.comparators
        if isinstance(holder.ops[0], (ast.In, ast.NotIn)):
            return holder.left is not node
        return isinstance(holder.ops[0], (ast.Eq, ast.NotEq)) and all(
            makes_set(part) or isinstance(part, ast.BinOp) for part in parts
        )
    return called(holder) in ("sorted", "len") and not holder.keywords


def check_l24(package):
    for source in package.sources:
        for node in source.of(ast.expr):
            if makes_set(node) and not set_in_its_place(source, node):
                yield source.name, node.lineno, "a set is kept"


def check_l25(package):
    for source in package.sources:
        for node in source.of(ast.Call):
            name = method_called(node)
            if name is not None and name not in METHODS | package.methods | package.values | {"__init__"}:
                yield source.name, node.lineno, f"the method {name}"
        for node in source.of(ast.Attribute):
            holder = source.holder[node]
            is_called = isinstance(holder, ast.Call) and holder.func is node
            as_key = isinstance(holder, ast.keyword) and holder.arg == "key"
            handed_on = node.attr in METHODS | package.methods and node.attr not in package.values
            if handed_on and not is_called and not as_key:
                yield source.name, node.lineno, f"the method {node.attr} is handed on"


def check_l26(package):
    for name in sorted(package.methods - METHODS - {"add", "discard", "__init__"}):
        if name in PYTHONS_OWN:
            yield "", 0, f"an own method {name}"
    for name in sorted(package.values - FREE_VALUES):
        if name in PYTHONS_OWN or name in ("args", "sort", "encode", "format"):
            yield "", 0, f"an own value {name}"


def check_l27(package):
    for source in package.sources:
        for node in source.of(ast.BinOp, ast.AugAssign):
            if isinstance(node.op, ast.Pow):
                power = node.right if isinstance(node, ast.BinOp) else node.value
                if not isinstance(power, ast.Constant) or not 0 <= power.value <= 64:
                    yield source.name, node.lineno, "an exponent that is not written"
        for node in source.of(ast.Constant):
            if isinstance(node.value, str) and "%" in node.value:
                yield source.name, node.lineno, "the sign % within a text"
            if isinstance(node.value, int) and abs(node.value) >= 10 ** 900:
                yield source.name, node.lineno, "a number of more than 900 digits"
        for node in source.of(ast.Name):
            if node.id == "chr":
                yield source.name, node.lineno, "chr"
        for token in tokenize.generate_tokens(io.StringIO(source.written).readline):
            kind = tokenize.tok_name[token.type]
            if kind in ("STRING", "FSTRING_MIDDLE") and re.search(r"\\[^nt\\'\"]", token.string.replace("\\\\", "")):
                yield source.name, token.start[0], "an escape that is not used"


def check_l28(package):
    for source in package.sources:
        for node in source.of(ast.Return):
            around = source.around(node)
            if isinstance(around, ast.FunctionDef) and around.name == "__init__" and node.value is not None:
                yield source.name, node.lineno, "__init__ gives something back"
        for node in source.of(ast.Attribute):
            if node.attr != "__init__":
                continue
            holder = source.holder[node]
            of_base = isinstance(node.value, ast.Name) and node.value.id in package.classes | ERRORS
            if not (of_base and isinstance(holder, ast.Call) and holder.args and holder.args[0].id == "self"):
                yield source.name, node.lineno, "a base's __init__ called otherwise"


CHECKS = {
    1: check_l1, 2: check_l2, 3: check_l3, 4: check_l4, 5: check_l5, 6: check_l6, 7: check_l7, 8: check_l8, 9: check_l9,
    10: check_l10, 11: check_l11, 12: check_l12, 13: check_l13, 14: check_l14, 15: check_l15, 16: check_l16,
    17: check_l17, 18: check_l18, 19: check_l19, 20: check_l20, 21: check_l21, 22: check_l22, 23: check_l23,
    24: check_l24, 25: check_l25, 26: check_l26, 27: check_l27, 28: check_l28,
}


def body(*rows):
    """A file with one function of these rows, which has a list xs and a dict d."""
    return "def f(xs, d):\n" + "".join(f"    {row}\n" for row in rows)


def one_class(*rows):
    """A file with one class A of these rows."""
    return "class A:\n" + "".join(f"    {row}\n" for row in rows)


EMPTY_CLASS = one_class("pass")
EMPTY_DEF = "def {}():\n    pass\n"

# Of each rule, what it must find fault with: the text of a file, or a dict of files.
SAMPLES = {
    1: ({"notes.txt": ""}, {"a-b.py": ""}, {"a.b.py": ""}, {"data/list.json": ""}),
    2: ("import math\n", "from math import sqrt\n", "from .desk import f\n", "from officeways.desk import *\n",
        "from officeways.__main__ import f\n", body("from officeways.desk import g"), "from os.path import join\n"),
    3: ("x = len([])\n", "x = 1 + 1\n", "x = [y]\ny = 1\n", "len([])\n", "if True:\n    x = 1\n", "x = 1\n'late'\n",
        "x = (1, 2.5)\n", "for x in [1]:\n    pass\n", "x = {1: f}\ndef f():\n    return 1\n"),
    4: ("def f(*xs):\n    return xs\n", "def f(**xs):\n    return xs\n", "def f(*, x):\n    return x\n",
        "def f(x, /):\n    return x\n", "def f(x=len([])):\n    return x\n", "@g\ndef f():\n    return 1\n",
        body("return lambda *xs: xs")),
    5: (one_class("x = 1"), "class A(int):\n    pass\n", "class A(B, C):\n    pass\nclass B:\n    pass\n",
        "class A(metaclass=B):\n    pass\n", "@g\n" + EMPTY_CLASS, one_class("def __add__(self, o):", "    pass")),
    6: (body("with xs:", "    pass"), body("del d[1]"), body("global g"), body("assert xs"), body("yield 1"),
        body("for x in xs:", "    pass", "else:", "    pass"), body("while xs:", "    pass", "else:", "    pass"),
        body("try:", "    pass", "finally:", "    pass"), body("try:", "    pass", "except:", "    pass"),
        body("a = b = 1"), body("a, b = xs"), body("xs"), "async def f():\n    pass\n",
        body("match xs:", "    case 1:", "        pass"), body("a: int = 1"),
        "def f():\n    x = 1\n    def g():\n        nonlocal x\n"),
    7: (body("return 1.5"), body("return b'x'"), body("return 1 / 2"), body("xs /= 2"), body("return xs @ xs"),
        body("return {x for x in xs}"), body("return {x: 1 for x in xs}"), body("return sum(x for x in xs)"),
        body("return (y := 1)"), body("return [*xs]"), body("return f(*xs)"), body("return [x for y in xs for x in y]"),
        body("return [x for x in xs if x if d]"), body("return f'{xs[0]}'"), body("return f'{xs:4}'"),
        body("return f'{xs!s}'"), "x = {1, 2}\n", body("return 2j"), body("return ...")),
    8: (body("return map(f, xs)"), body("len = 1"), body("return hash(xs)"), body("return xs.format(1)"),
        body("return xs.mro"), body("__x = 1"), "def __f():\n    return 1\n", body("return filter(f, xs)"),
        "def f(list):\n    return list\n", body("return unknown")),
    9: (body("print(xs)"), body("return open(xs)"), "import time\n", "from random import random\n",
        {"__main__.py": "import sys\n"}),
    10: ("\n" * 401, body("x = " + "1 + " * 40 + "1"), "def f():\n\treturn 1\n", body(*["x = 1"] * 41)),
    11: ("def f(x):\n    return f(x)\n", "def f(x):\n    return g(x)\ndef g(x):\n    return f(x)\n",
         body("for x in set(xs):", "    pass"), body("return [x for x in {1, 2}]"), body("return set(xs).pop()"),
         body("try:", "    return d[1]", "except KeyError as e:", "    return str(e)")),
    12: ("_x = 1\n", "def f(_):\n    return 1\n", body("for _ in xs:", "    pass"), body("return xs._x"),
         body("_x = 1"), "def _f():\n    return 1\n", body("return f(_x=1)"), "class _A:\n    pass\n"),
    13: (body("x = {1, 2, 3}"), body("return sorted({1, 2, 3})"), body("return [lambda x: 1, lambda x: 2]")),
    14: ({"Desk.py": ""}, {"tests.py": ""}, {"test_a.py": ""}, {"len.py": ""}, {"enum.py": ""}, {"site.py": ""},
         {"part/a.py": ""}, {"part/__init__.py": "", "part/__main__.py": ""}, "# \u00e4\n", "x = '\u20ac'\n",
         "# a\r\n", {"filter.py": ""}),
    15: ("x = 1\nx = 2\n", "x = [[1]]\n", "x = {1: [2]}\n", "xx = []\n" + body("xx.append(1)"),
         "xx = [1]\n" + body("xx[0] = 2"), "xx = [1]\n" + body("return xx"), "xx = [1]\n" + body("return f(xx, 1)"),
         body("class A:", "    pass"), body("id = 1"), EMPTY_CLASS + body("A = 1"),
         "from officeways.other import g\n" + body("g = 1"), "def f(hash):\n    return 1\n", "def f():\n    pass\n" * 2,
         body("for next in xs:", "    pass")),
    16: ("import officeways.other\n", "from officeways import other\n",
         {"a.py": "from officeways.b import g\n" + EMPTY_DEF.format("f"),
          "b.py": "from officeways.a import f\n" + EMPTY_DEF.format("g")},
         {"a.py": "from officeways.b import f\n", "b.py": "from officeways.c import f\n",
          "c.py": EMPTY_DEF.format("f")},
         {"__init__.py": "a = 1\n", "a.py": ""},
         {"__init__.py": "from officeways.a import f\n", "b.py": EMPTY_DEF.format("g"),
          "a.py": "from officeways.b import g\n" + EMPTY_DEF.format("f")},
         "from officeways.nowhere import f\n"),
    17: (body("return xs.open"), body("register = 1"), "# a type\n", "x = 'Enum'\n", "# mydataclasses\n",
         body("return xs.f_back"), body("return getattr(xs, 'a')"), body("super()"), body("vars = 1"),
         "def open():\n    return 1\n", body("return xs.elements()"), body("return xs.tb_next")),
    18: (EMPTY_CLASS + body("return [A]"), EMPTY_CLASS + body("return A"),
         EMPTY_CLASS + body("A.x = 1"), one_class("def g(self):", "    pass", "def g(self):", "    pass"),
         "class A:\n    def g(self):\n        pass\nclass B:\n    def __init__(self):\n        self.g = 1\n",
         "class A(StopIteration):\n    pass\n", "class A(AttributeError):\n    pass\n", body("return KeyError"),
         EMPTY_CLASS + body("return f(A, 1)")),
    19: (body("try:", "    return 1", "except Exception:", "    return 2"),
         body("try:", "    return 1", "except TypeError:", "    return 2"),
         body("try:", "    return f(xs, d)", "except ValueError:", "    return 2"),
         body("try:", "    return f(xs, d)", "except (KeyError, IndexError):", "    return 2"),
         body("raise xs"), body("raise KeyError"), body("try:", "    pass", "except KeyError:", "    raise"),
         body("raise KeyError() from xs")),
    20: (body("return xs is d"), body("return xs is not 1"), body("return xs is ''")),
    21: ("x: int = 1\n", "def f(x: int):\n    return x\n", "def f() -> int:\n    return 1\n", body("x: int")),
    22: (body("g = len"), body("return [len]"), body("return sorted(xs, key=ord)"), body("return int(xs, base=2)"),
         body("return xs.split(sep=' ')"), body("return sorted(xs, reverse=d)"), body("return isinstance(xs, set)"),
         body("return isinstance(xs, (int, d))"), body("return max(xs, strict=True)"), body("return f(str, 1)"),
         body("return isinstance(int, str)"), body("return zip(xs, d, strict=xs)")),
    23: (body("r = range(3)"), body("return zip(xs, d)"), body("return d.items()"), body("return f(d.keys(), 1)"),
         body("return reversed(xs)"), body("return sorted(xs, key=range(3))"), body("return max(1, range(3))"),
         body("for x in xs:", "    xs.append(x)"), body("for k, x in enumerate(xs):", "    xs[k] = 1"),
         body("for k in d.keys():", "    d.pop(k)"), body("for x in xs:", "    xs += [1]"),
         body("for x in d[1]:", "    d[1].append(x)"), body("for x in xs:", "    if x:", "        xs.clear()"),
         body("return xs.join(range(3))"), body("return reversed(range(3))")),
    24: (body("s = set(xs)"), body("return {1, 2}"), body("return list(set(xs))"), body("return set(xs) == xs"),
         body("return sorted(set(xs), key=len)"), body("s = frozenset(xs)"), body("for x in {1, 2}:", "    pass"),
         body("return set(xs) - set(d)"), body("return set(xs) in d")),
    25: (body("xs.sort()"), body("return xs.encode()"), body("g = xs.append"), body("return f(xs.pop, 1)"),
         body("return xs.title()"), body("return xs.intersection(d)"), body("return d.fromkeys(xs)"),
         body("return xs.to_bytes(1)")),
    26: (one_class("def sort(self):", "    pass"), one_class("def title(self):", "    pass"),
         one_class("def __init__(self):", "    self.items = 1"), one_class("def __init__(self):", "    self.args = 1"),
         one_class("def encode(self):", "    pass"), one_class("def __init__(self):", "    self.real = 1")),
    27: (body("return 2 ** xs"), body("return 2 ** 65"), body("return 2 ** -1"), body("xs **= d"), body("return '%d'"),
         body("return chr(65)"), body("return '\\x41'"), body("return '\\u0041'"), body("return f'\\r{xs}'"),
         body("return '\\0'"), "x = 1" + "0" * 900 + "\n", '"""100%"""\n'),
    28: (one_class("def __init__(self):", "    return None"), one_class("def __init__(self):", "    return 1"),
         body("xs.__init__(1)"), EMPTY_CLASS + body("return A.__init__(xs)")),
}

# What the rules allow, so that no check is narrower than it means to be.
GOOD = (
    "from __future__ import annotations\nfrom officeways.other import g\nNAMES = {'a': 1}\nX = (1, -2, ('a', None))\n",
    body("return sorted(xs, key=lambda x: x, reverse=True)"), body("return [x + 1 for x in xs if x in (1, 2)]"),
    body("for k, x in enumerate(xs):", "    d[k] = x"), body("return len(set(xs)) == len(xs)"),
    body("return sorted(set(xs) - set(d))"), body("return xs is None or d is not True"),
    body("try:", "    return d[1]", "except KeyError:", "    return None"),
    body("for x in list(xs):", "    xs.append(x)"), body("return max(d.values()) + min(xs, default=0)"),
    body("return ', '.join([str(x) for x in xs])"), body("return f'{xs} and {d!r}\\n'"), body("return xs in {1, 2, 3}"),
    "NAMES = [1, 2]\n" + body("return NAMES[0] + len(NAMES)"), "NAMES = [1, 2]\n" + body("return list(NAMES)"),
    "class Own(Exception):\n    pass\n" + body("try:", "    return 1", "except Own as e:", "    raise Own() from e"),
    one_class("def __init__(self, x):", "    self.x = x") + body("a = A(1)", "a.x = 2", "return isinstance(a, A)"),
    body("return xs ** 2 + 2 ** 64"), body("return dict([(x, 1) for x in xs])"), body("xs[0] += 1"),
)
OTHERS = {"__init__.py": "", "other.py": "def g():\n    return 1\n"}


def faults(files):
    """The numbers of the rules with which the files are at fault."""
    package = Package(files)
    return {number for number, check in CHECKS.items() if list(check(package))}


class Language(unittest.TestCase):

    def test_the_package(self):
        files = {}
        for path in PACKAGE.rglob("*"):
            if path.is_file() and "__pycache__" not in path.parts:
                files[path.relative_to(PACKAGE).as_posix()] = path.read_bytes().decode("utf-8")
        self.assertIn("desk.py", files)
        package = Package(files)
        for number, check in CHECKS.items():
            with self.subTest(f"L{number}"):
                self.assertEqual(list(check(package)), [])

    def test_every_rule_has_a_check_and_samples(self):
        self.assertEqual(sorted(CHECKS), list(range(1, 29)))
        self.assertEqual(sorted(SAMPLES), list(range(1, 29)))

    def test_samples(self):
        for number, samples in SAMPLES.items():
            for sample in samples:
                files = dict(OTHERS)
                files.update(sample if isinstance(sample, dict) else {"sample.py": sample})
                with self.subTest(f"L{number}", sample=sample):
                    self.assertIn(number, faults(files))

    def test_what_is_allowed(self):
        for sample in GOOD:
            with self.subTest(sample=sample):
                self.assertEqual(faults({**OTHERS, "sample.py": sample}), set())


if __name__ == "__main__":
    unittest.main()
