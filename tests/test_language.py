"""The package's files keep to the part of Python that LANGUAGE.md allows, as far as a short test can see."""

import ast
import builtins
import pathlib
import re
import unittest

PACKAGE = pathlib.Path(__file__).resolve().parent.parent / "officeways"

BUILT_IN = set(
    "len range enumerate zip min max sum abs sorted reversed int str bool list tuple dict set frozenset isinstance "
    "ord repr any all divmod Exception ValueError TypeError KeyError IndexError LookupError ZeroDivisionError "
    "ArithmeticError OverflowError RuntimeError NotImplementedError AttributeError StopIteration".split()
)
OWN_METHODS = set(
    "append clear copy count endswith extend find get index insert isalnum isalpha isdigit islower isspace isupper "
    "items join keys ljust lower lstrip partition pop remove replace reverse rfind rjust rpartition rsplit rstrip "
    "setdefault split splitlines startswith strip update upper values zfill bit_length".split()
)
WORDS_OUT = (
    "type typing typing_extensions enum Enum IntEnum StrEnum Flag IntFlag Generic Protocol ABC ABCMeta namedtuple "
    "NamedTuple TypedDict TYPE_CHECKING abstractmethod".split()
)
NAMES_OUT = set(
    "register mro elements open input version_info with_traceback add_note attrgetter breakpoint builtins compile "
    "copyright credits delattr dir eval exec exit gc getattr globals hasattr help id importlib license locals "
    "methodcaller os quit setattr super type vars sys __name__".split()
)
STATEMENTS = (
    ast.Assign, ast.AugAssign, ast.If, ast.While, ast.For, ast.Return, ast.Break, ast.Continue, ast.Pass, ast.Raise,
    ast.Try, ast.Expr, ast.FunctionDef, ast.ClassDef, ast.ImportFrom,
)
EXPRESSIONS_OUT = (
    ast.Div, ast.MatMult, ast.SetComp, ast.DictComp, ast.GeneratorExp, ast.NamedExpr, ast.Starred, ast.Yield,
    ast.YieldFrom, ast.Await, ast.Set,
)
DUNDERS = ("__init__", "__eq__", "__repr__", "__str__", "__len__")


def sources():
    return sorted(path for path in PACKAGE.rglob("*") if "__pycache__" not in path.parts)


def bound_names(tree):
    for node in ast.walk(tree):
        if isinstance(node, ast.Name) and isinstance(node.ctx, ast.Store):
            yield node.id
        elif isinstance(node, ast.arg):
            yield node.arg
        elif isinstance(node, (ast.FunctionDef, ast.ClassDef)):
            yield node.name
        elif isinstance(node, ast.Attribute) and isinstance(node.ctx, ast.Store):
            yield node.attr


def of_each_file(check):
    def test(self):
        for path in sources():
            written = path.read_text(encoding="utf-8")
            with self.subTest(path.name):
                check(self, written, ast.parse(written))
    return test


class Language(unittest.TestCase):

    def test_files(self):
        self.assertTrue((PACKAGE / "__init__.py").is_file())
        for path in sources():
            self.assertRegex(path.name, r"^[a-z_][a-z0-9_]*\.py$")

    @of_each_file
    def test_sizes_and_signs(self, written, tree):
        rows = written.split("\n")
        self.assertLessEqual(len(rows), 400)
        self.assertLessEqual(max(len(row) for row in rows), 120)
        self.assertRegex(written, r"^[ -~\n]*$")
        for node in ast.walk(tree):
            if isinstance(node, ast.FunctionDef):
                self.assertLessEqual(node.end_lineno - node.lineno + 1, 40, node.name)

    @of_each_file
    def test_words_that_stand_nowhere(self, written, tree):
        for word in WORDS_OUT:
            self.assertIsNone(re.search(rf"\b{word}\b", written), word)
        for word in ("dataclass", "overload", "contextmanager"):
            self.assertNotIn(word, written)

    @of_each_file
    def test_statements_and_expressions(self, written, tree):
        for node in ast.walk(tree):
            if isinstance(node, ast.stmt):
                self.assertIsInstance(node, STATEMENTS)
            self.assertNotIsInstance(node, EXPRESSIONS_OUT)
            if isinstance(node, ast.Assign):
                self.assertEqual(len(node.targets), 1)
            if isinstance(node, (ast.While, ast.For)):
                self.assertEqual(node.orelse, [])
            if isinstance(node, ast.Try):
                self.assertEqual(node.finalbody, [])
            if isinstance(node, ast.Constant):
                self.assertNotIsInstance(node.value, (float, bytes, complex))
                self.assertFalse(isinstance(node.value, str) and "%" in node.value)
            if isinstance(node, ast.ListComp):
                self.assertEqual(len(node.generators), 1)
                self.assertLessEqual(len(node.generators[0].ifs), 1)
            if isinstance(node, (ast.FunctionDef, ast.ClassDef)):
                self.assertEqual(node.decorator_list, [])

    @of_each_file
    def test_the_top_of_a_module(self, written, tree):
        for place, node in enumerate(tree.body):
            if isinstance(node, ast.Expr):
                self.assertEqual(place, 0)
                self.assertIsInstance(node.value.value, str)
            else:
                self.assertIsInstance(node, (ast.ImportFrom, ast.FunctionDef, ast.ClassDef, ast.Assign))

    @of_each_file
    def test_imports(self, written, tree):
        for node in ast.walk(tree):
            if isinstance(node, ast.ImportFrom):
                self.assertEqual(node.level, 0)
                self.assertTrue(node.module.startswith("officeways."))
                home = ast.parse((PACKAGE / (node.module.split(".")[1] + ".py")).read_text())
                for name in node.names:
                    self.assertIn(name.name, [found for row in home.body for found in bound_names(row)])
                    self.assertIsNone(name.asname)

    @of_each_file
    def test_names(self, written, tree):
        imported = [name.name for node in ast.walk(tree) if isinstance(node, ast.ImportFrom) for name in node.names]
        bound = list(bound_names(tree))
        for name in bound:
            self.assertNotIn(name, NAMES_OUT)
            self.assertNotIn(name, dir(builtins))
            self.assertNotIn(name, imported)
            self.assertTrue(name in DUNDERS or re.fullmatch(r"[A-Za-z][A-Za-z0-9_]*", name), name)
        for node in ast.walk(tree):
            if isinstance(node, ast.Name) and isinstance(node.ctx, ast.Load):
                self.assertIn(node.id, BUILT_IN | set(bound) | set(imported))

    def test_methods(self):
        trees = [ast.parse(path.read_text()) for path in sources()]
        nodes = [node for tree in trees for node in ast.walk(tree)]
        classes = [node for node in nodes if isinstance(node, ast.ClassDef)]
        own = {row.name for node in classes for row in node.body if isinstance(row, ast.FunctionDef)}
        for node in nodes:
            if isinstance(node, ast.Call) and isinstance(node.func, ast.Attribute):
                self.assertIn(node.func.attr, OWN_METHODS | own)

    def test_values_are_not_called_like_methods(self):
        values = set()
        for path in sources():
            for node in ast.walk(ast.parse(path.read_text())):
                if isinstance(node, ast.Attribute) and isinstance(node.ctx, ast.Store):
                    values.add(node.attr)
        taken = set()
        for kind in (str, int, list, dict, set, bytes, tuple):
            taken.update(dir(kind))
        self.assertEqual(values & taken, set())


if __name__ == "__main__":
    unittest.main()
