"""How the files of the package are written: the sizes, characters and imports that its subset of Python allows."""

import ast
import builtins
import pathlib
import unittest

PACKAGE = pathlib.Path(__file__).resolve().parent.parent / "commonanswer"
LIBRARY = ("heapq", "math", "itertools", "collections")
BUILTINS = (
    "len", "range", "enumerate", "zip", "min", "max", "sum", "abs", "sorted", "reversed", "int", "str", "bool", "list",
    "tuple", "dict", "set", "isinstance", "ord", "repr", "any", "all", "divmod", "ValueError", "TypeError", "KeyError",
    "IndexError", "LookupError", "ArithmeticError", "property", "classmethod", "staticmethod",
)
BARRED = (
    "register", "mro", "elements", "open", "input", "law", "version_info", "with_traceback", "add_note", "attrgetter",
    "breakpoint", "builtins", "compile", "copyright", "credits", "delattr", "dir", "eval", "exec", "exit", "gc",
    "globals", "help", "id", "importlib", "license", "locals", "methodcaller", "os", "quit", "sys", "vars", "typing",
    "enum", "dataclass", "namedtuple", "format",
)
DOUBLE = (
    "__init__", "__eq__", "__len__", "__str__", "__bool__", "__enter__", "__exit__", "__contains__", "__iter__",
    "__getitem__", "__setitem__",
)


def sources():
    """Each file of the package with its text."""
    return [(path, path.read_bytes().decode("utf-8")) for path in sorted(PACKAGE.rglob("*.py"))]


class Form(unittest.TestCase):
    def test_folder_contains_python_files_only(self):
        for path in PACKAGE.rglob("*"):
            if "__pycache__" not in path.parts:
                self.assertEqual(path.suffix, ".py", path)

    def test_sizes_and_characters(self):
        for path, text in sources():
            lines = text.split("\n")
            self.assertLessEqual(len(lines), 399, path)
            for at, line in enumerate(lines):
                self.assertLessEqual(len(line), 120, f"{path}:{at + 1}")
                self.assertTrue(all(" " <= char <= "~" for char in line), f"{path}:{at + 1}")

    def test_sizes_of_functions(self):
        for path, text in sources():
            for node in ast.walk(ast.parse(text)):
                if isinstance(node, ast.FunctionDef):
                    self.assertLessEqual(node.end_lineno - node.lineno + 1, 40, f"{path}:{node.lineno}")

    def test_imports(self):
        for path, text in sources():
            for node in ast.walk(ast.parse(text)):
                self.assertNotIsInstance(node, ast.Import, path)
                if isinstance(node, ast.ImportFrom):
                    top = node.module.split(".")[0]
                    self.assertTrue(node.level == 0 and top in ("commonanswer", *LIBRARY), f"{path}:{node.lineno}")
                    self.assertNotIn("*", [name.name for name in node.names])

    def test_builtins(self):
        for path, text in sources():
            for node in ast.walk(ast.parse(text)):
                if isinstance(node, ast.Name) and hasattr(builtins, node.id):
                    self.assertIn(node.id, BUILTINS, f"{path}:{node.lineno}")

    def test_names_that_are_not_used(self):
        for path, text in sources():
            for node in ast.walk(ast.parse(text)):
                names = [
                    getattr(node, field) for field in ("id", "name", "attr", "arg", "asname")
                    if isinstance(getattr(node, field, None), str)
                ]
                for name in names:
                    self.assertNotIn(name, BARRED, path)
                    self.assertTrue(not name.startswith("__") or name in DOUBLE, f"{path}: {name}")

    def test_signs_and_statements(self):
        barred = (
            ast.Div, ast.MatMult, ast.GeneratorExp, ast.Global, ast.AsyncFunctionDef, ast.Await, ast.AnnAssign,
            ast.SetComp, ast.Set, ast.NamedExpr,
        )
        for path, text in sources():
            for node in ast.walk(ast.parse(text)):
                self.assertNotIsInstance(node, barred, path)
                if isinstance(node, ast.Constant):
                    self.assertNotIsInstance(node.value, (float, complex, bytes), path)
                if isinstance(node, ast.Call):
                    for part in node.args:
                        self.assertFalse(isinstance(part, ast.Starred) and not isinstance(part.value, ast.Name), path)
