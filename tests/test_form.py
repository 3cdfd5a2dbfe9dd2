"""The form of the package's files: the rules of the language that a short look can see."""

import ast
import builtins
import pathlib
import re
import unittest

PACKAGE = pathlib.Path(__file__).resolve().parent.parent / "woolyears"
FILES = sorted(PACKAGE.glob("*.py"))
OUTSIDE = (
    ast.With, ast.Match, ast.Global, ast.Nonlocal, ast.Yield, ast.YieldFrom, ast.AsyncFunctionDef, ast.Await,
    ast.GeneratorExp, ast.NamedExpr, ast.Import, ast.Div, ast.MatMult,
)
OWN_NAMES = {
    "len", "range", "enumerate", "zip", "min", "max", "sum", "abs", "sorted", "reversed", "int", "str", "bool",
    "bytes", "list", "tuple", "dict", "set", "frozenset", "isinstance", "ord", "repr", "any", "all", "divmod",
    "Exception", "ValueError", "TypeError", "KeyError", "IndexError", "LookupError", "ZeroDivisionError",
    "ArithmeticError", "OverflowError", "RuntimeError", "NotImplementedError", "AttributeError", "StopIteration",
}
BARRED_WORDS = re.compile(
    r"\b(type|typing|typing_extensions|enum|Enum|IntEnum|StrEnum|Flag|IntFlag|Generic|Protocol|ABC|ABCMeta"
    r"|namedtuple|NamedTuple|TypedDict|TYPE_CHECKING|abstractmethod)\b|dataclass|overload|contextmanager"
)
# Methods of Python's own values that the package may call, and names that no value of an object bears.
OWN_METHODS = {
    "append", "clear", "copy", "count", "endswith", "extend", "find", "get", "index", "insert", "isalnum", "isalpha",
    "isdigit", "islower", "isspace", "isupper", "items", "join", "keys", "ljust", "lower", "lstrip", "partition", "pop",
    "remove", "replace", "reverse", "rfind", "rjust", "rpartition", "rsplit", "rstrip", "setdefault", "split",
    "splitlines", "startswith", "strip", "update", "upper", "values", "zfill", "bit_length",
}
NO_VALUES = {
    "items", "keys", "values", "pop", "update", "append", "clear", "extend", "insert", "remove", "reverse",
    "setdefault", "sort", "args", "encode", "decode", "hex", "fromhex", "format",
}
TWO_UNDERSCORES = ("__init__", "__eq__", "__repr__", "__str__", "__len__")


def bound_names(tree):
    """All names that a file gives, draws in, or calls a parameter by."""
    names = set()
    for node in ast.walk(tree):
        if isinstance(node, ast.Name) and isinstance(node.ctx, ast.Store):
            names.add(node.id)
        elif isinstance(node, ast.arg):
            names.add(node.arg)
        elif isinstance(node, (ast.FunctionDef, ast.ClassDef)):
            names.add(node.name)
        elif isinstance(node, ast.ImportFrom):
            names.update(alias.asname or alias.name for alias in node.names)
    return names


def read_names(tree):
    return {node.id for node in ast.walk(tree) if isinstance(node, ast.Name) and isinstance(node.ctx, ast.Load)}


def tops_of(tree):
    """The names that a file gives at its top, each as often as it is given there."""
    names = []
    for node in tree.body:
        if isinstance(node, (ast.FunctionDef, ast.ClassDef)):
            names.append(node.name)
        elif isinstance(node, ast.ImportFrom):
            names += [alias.asname or alias.name for alias in node.names]
        elif isinstance(node, ast.Assign):
            names += [target.id for target in node.targets]
    return names


def locals_of(tree):
    """Parameters, and names that are given a value within a def."""
    names = set()
    for node in ast.walk(tree):
        if isinstance(node, (ast.FunctionDef, ast.Lambda)):
            for part in ast.walk(node):
                if isinstance(part, ast.arg):
                    names.add(part.arg)
                elif isinstance(part, ast.Name) and isinstance(part.ctx, ast.Store):
                    names.add(part.id)
    return names


def drawn_by(tree):
    """Pairs of the file that is drawn from and the name that is drawn."""
    rows = [node for node in ast.walk(tree) if isinstance(node, ast.ImportFrom)]
    return [(row.module.removeprefix("woolyears."), alias.name) for row in rows for alias in row.names]


class Form(unittest.TestCase):
    def each(self):
        self.assertTrue(FILES)
        for path in FILES:
            with self.subTest(file=path.name):
                text = path.read_text("utf-8")
                yield text, ast.parse(text)

    def test_nothing_else_lies_in_the_package(self):
        found = [path.name for path in PACKAGE.iterdir() if path.name != "__pycache__"]
        self.assertEqual(sorted(found), [path.name for path in FILES])
        self.assertIn("__init__.py", found)

    def test_size_and_signs(self):
        for text, tree in self.each():
            rows = text.split("\n")
            self.assertLessEqual(len(rows), 401)
            self.assertLessEqual(max(len(row) for row in rows), 120)
            self.assertIsNone(re.search(r"[^\n -~]", text))
            for node in ast.walk(tree):
                if isinstance(node, ast.FunctionDef):
                    self.assertLessEqual(node.end_lineno - node.lineno + 1, 40, node.name)

    def test_statements_and_expressions(self):
        for text, tree in self.each():
            for node in ast.walk(tree):
                self.assertNotIsInstance(node, OUTSIDE)
                self.assertFalse(getattr(node, "decorator_list", None))
                self.assertFalse(isinstance(node, (ast.For, ast.While)) and node.orelse)
                self.assertFalse(isinstance(node, ast.Constant) and isinstance(node.value, float))

    def test_imports_are_the_packages_own(self):
        for text, tree in self.each():
            for node in ast.walk(tree):
                if isinstance(node, ast.ImportFrom) and node.module != "__future__":
                    self.assertEqual(node.level, 0)
                    self.assertTrue(node.module.startswith("woolyears."), node.module)

    def test_names(self):
        for text, tree in self.each():
            self.assertIsNone(BARRED_WORDS.search(text))
            bound = bound_names(tree)
            self.assertEqual([name for name in bound if name.startswith("_") and name not in TWO_UNDERSCORES], [])
            self.assertEqual(bound & OWN_NAMES, set())
            self.assertEqual(read_names(tree) - bound - OWN_NAMES, set())

    def test_each_name_once(self):
        for text, tree in self.each():
            tops = tops_of(tree)
            self.assertEqual(sorted(set(tops)), sorted(tops))
            self.assertEqual(locals_of(tree) & set(tops), set())
            self.assertEqual(locals_of(tree) & set(dir(builtins)), set())

    def test_each_import_is_used_and_comes_from_where_it_is_defined(self):
        trees = {path.stem: ast.parse(path.read_text("utf-8")) for path in FILES}
        for name, tree in trees.items():
            for module, drawn in drawn_by(tree):
                own = [other for _, other in drawn_by(trees[module])]
                self.assertIn(drawn, set(tops_of(trees[module])) - set(own), name)
                self.assertIn(drawn, read_names(tree), name)

    def test_no_two_files_draw_from_one_another(self):
        left = {path.stem: {module for module, _ in drawn_by(ast.parse(path.read_text("utf-8")))} for path in FILES}
        while left:
            free = [name for name, drawn in left.items() if not drawn & set(left)]
            self.assertTrue(free, left)
            left = {name: drawn for name, drawn in left.items() if name not in free}

    def test_methods_and_values(self):
        methods, values, asked = set(), set(), set()
        for text, tree in self.each():
            for node in ast.walk(tree):
                if isinstance(node, ast.ClassDef):
                    methods.update(part.name for part in node.body if isinstance(part, ast.FunctionDef))
                elif isinstance(node, ast.Attribute):
                    (values if isinstance(node.ctx, ast.Store) else asked).add(node.attr)
        self.assertEqual(methods & values, set())
        self.assertEqual(values & NO_VALUES, set())
        self.assertEqual(asked - methods - values - OWN_METHODS, set())

    def test_signs_and_escapes_in_texts(self):
        for text, tree in self.each():
            for node in ast.walk(tree):
                if isinstance(node, ast.Constant) and isinstance(node.value, str):
                    self.assertNotIn(chr(37), node.value)
            self.assertIsNone(re.search(r"\\[^nt\\'\"]", text))


if __name__ == "__main__":
    unittest.main()
