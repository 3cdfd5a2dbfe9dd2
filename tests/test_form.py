"""The form of the package's files: the rules of the language that a short look can see."""

import ast
import pathlib
import re
import unittest

PACKAGE = pathlib.Path(__file__).resolve().parent.parent / "woolyears"
FILES = sorted(PACKAGE.glob("*.py"))
OUTSIDE = (
    ast.With, ast.Match, ast.Global, ast.Nonlocal, ast.Yield, ast.YieldFrom, ast.AsyncFunctionDef, ast.Await,
    ast.GeneratorExp, ast.NamedExpr, ast.Import, ast.Div, ast.MatMult,
)
OWN_NAMES = {
    "len", "range", "enumerate", "zip", "min", "max", "sum", "abs", "sorted", "reversed", "int", "str", "bool",
    "bytes", "list", "tuple", "dict", "set", "frozenset", "isinstance", "ord", "repr", "any", "all", "divmod",
    "Exception", "ValueError", "TypeError", "KeyError", "IndexError", "LookupError", "ZeroDivisionError",
    "ArithmeticError", "OverflowError", "RuntimeError", "NotImplementedError", "AttributeError", "StopIteration",
}
BARRED_WORDS = re.compile(
    r"\b(type|typing|typing_extensions|enum|Enum|IntEnum|StrEnum|Flag|IntFlag|Generic|Protocol|ABC|ABCMeta"
    r"|namedtuple|NamedTuple|TypedDict|TYPE_CHECKING|abstractmethod)\b|dataclass|overload|contextmanager"
)
TWO_UNDERSCORES = ("__init__", "__eq__", "__repr__", "__str__", "__len__")


def bound_names(tree):
    """All names that a file gives, draws in, or calls a parameter by."""
    names = set()
    for node in ast.walk(tree):
        if isinstance(node, ast.Name) and isinstance(node.ctx, ast.Store):
            names.add(node.id)
        elif isinstance(node, ast.arg):
            names.add(node.arg)
        elif isinstance(node, (ast.FunctionDef, ast.ClassDef)):
            names.add(node.name)
        elif isinstance(node, ast.ImportFrom):
            names.update(alias.asname or alias.name for alias in node.names)
    return names


def read_names(tree):
    return {node.id for node in ast.walk(tree) if isinstance(node, ast.Name) and isinstance(node.ctx, ast.Load)}


class Form(unittest.TestCase):
    def each(self):
        self.assertTrue(FILES)
        for path in FILES:
            with self.subTest(file=path.name):
                text = path.read_text("utf-8")
                yield text, ast.parse(text)

    def test_nothing_else_lies_in_the_package(self):
        found = [path.name for path in PACKAGE.iterdir() if path.name != "__pycache__"]
        self.assertEqual(sorted(found), [path.name for path in FILES])
        self.assertIn("__init__.py", found)

    def test_size_and_signs(self):
        for text, tree in self.each():
            rows = text.split("\n")
            self.assertLessEqual(len(rows), 401)
            self.assertLessEqual(max(len(row) for row in rows), 120)
            self.assertIsNone(re.search(r"[^\n -~]", text))
            for node in ast.walk(tree):
                if isinstance(node, ast.FunctionDef):
                    self.assertLessEqual(node.end_lineno - node.lineno + 1, 40, node.name)

    def test_statements_and_expressions(self):
        for text, tree in self.each():
            for node in ast.walk(tree):
                self.assertNotIsInstance(node, OUTSIDE)
                self.assertFalse(getattr(node, "decorator_list", None))
                self.assertFalse(isinstance(node, (ast.For, ast.While)) and node.orelse)
                self.assertFalse(isinstance(node, ast.Constant) and isinstance(node.value, float))

    def test_imports_are_the_packages_own(self):
        for text, tree in self.each():
            for node in ast.walk(tree):
                if isinstance(node, ast.ImportFrom) and node.module != "__future__":
                    self.assertEqual(node.level, 0)
                    self.assertTrue(node.module.startswith("woolyears."), node.module)

    def test_names(self):
        for text, tree in self.each():
            self.assertIsNone(BARRED_WORDS.search(text))
            bound = bound_names(tree)
            self.assertEqual([name for name in bound if name.startswith("_") and name not in TWO_UNDERSCORES], [])
            self.assertEqual(bound & OWN_NAMES, set())
            self.assertEqual(read_names(tree) - bound - OWN_NAMES, set())


if __name__ == "__main__":
    unittest.main()
