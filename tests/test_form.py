"""How the files of the package are written: the sizes, characters and imports that its subset of Python allows."""

import ast
import pathlib
import unittest

PACKAGE = pathlib.Path(__file__).resolve().parent.parent / "commonanswer"
LIBRARY = ("heapq", "math", "itertools", "collections")


def sources():
    """Each file of the package with its text."""
    return [(path, path.read_bytes().decode("utf-8")) for path in sorted(PACKAGE.rglob("*.py"))]


class Form(unittest.TestCase):
    def test_folder_contains_python_files_only(self):
        for path in PACKAGE.rglob("*"):
            if "__pycache__" not in path.parts:
                self.assertEqual(path.suffix, ".py", path)

    def test_sizes_and_characters(self):
        for path, text in sources():
            lines = text.split("\n")
            self.assertLessEqual(len(lines), 399, path)
            for at, line in enumerate(lines):
                self.assertLessEqual(len(line), 120, f"{path}:{at + 1}")
                self.assertTrue(all(" " <= char <= "~" for char in line), f"{path}:{at + 1}")

    def test_sizes_of_functions(self):
        for path, text in sources():
            for node in ast.walk(ast.parse(text)):
                if isinstance(node, ast.FunctionDef):
                    self.assertLessEqual(node.end_lineno - node.lineno + 1, 40, f"{path}:{node.lineno}")

    def test_imports(self):
        for path, text in sources():
            for node in ast.walk(ast.parse(text)):
                self.assertNotIsInstance(node, ast.Import, path)
                if isinstance(node, ast.ImportFrom):
                    top = node.module.split(".")[0]
                    self.assertTrue(node.level == 0 and top in ("commonanswer", *LIBRARY), f"{path}:{node.lineno}")
                    self.assertNotIn("*", [name.name for name in node.names])
