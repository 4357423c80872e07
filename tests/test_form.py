"""The form of the package's files: sizes, characters, imports and words that are not used."""

import ast
import pathlib
import unittest

ROOT = pathlib.Path(__file__).resolve().parent.parent
PACKAGE = ROOT / "cleandress"
LIBRARY = ("heapq", "math", "itertools", "collections")
BARRED = ("Global", "AsyncFunctionDef", "Await", "AsyncFor", "AsyncWith", "Div", "TryStar")
WORDS = ("enum", "typing", "dataclass", "eval", "exec", "open", "input", "globals", "locals", "vars", "dir", "id")


def files():
    return sorted([path for path in PACKAGE.rglob("*") if path.is_file() and "__pycache__" not in path.parts])


class Form(unittest.TestCase):
    def trees(self):
        return [(path, ast.parse(path.read_text("ascii"))) for path in files()]

    def test_files(self):
        self.assertTrue(files())
        for path in files():
            self.assertEqual(path.suffix, ".py", path)
            self.assertTrue((path.parent / "__init__.py").is_file(), path)
            self.assertFalse((path.parent / path.stem).is_dir(), path)
            self.assertFalse(path.name.startswith("test"), path)

    def test_lines_and_characters(self):
        for path in files():
            text = path.read_bytes().decode("ascii")
            lines = text.split("\n")
            self.assertLessEqual(len(lines), 400, path)
            for line in lines:
                self.assertLessEqual(len(line), 120, path)
                self.assertTrue(all(" " <= character <= "~" for character in line), (path, line))

    def test_functions_are_small(self):
        for path, tree in self.trees():
            for node in ast.walk(tree):
                if isinstance(node, ast.FunctionDef):
                    self.assertLessEqual(node.end_lineno - node.lineno + 1, 40, (path, node.name))

    def test_imports(self):
        for path, tree in self.trees():
            for node in ast.walk(tree):
                self.assertNotIsInstance(node, ast.Import, path)
                if isinstance(node, ast.ImportFrom):
                    self.assertIn(node, tree.body, path)
                    self.assertEqual(node.level, 0, path)
                    self.assertIn(node.module.split(".")[0], ("cleandress",) + LIBRARY, path)

    def test_what_is_not_used(self):
        for path, tree in self.trees():
            for node in ast.walk(tree):
                self.assertNotIn(node.__class__.__name__, BARRED, path)
                if isinstance(node, ast.Constant):
                    self.assertNotIsInstance(node.value, (float, complex), path)
                if isinstance(node, ast.Name):
                    self.assertNotIn(node.id, WORDS, path)
