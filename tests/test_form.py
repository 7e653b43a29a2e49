"""The outer form of the package's files: sizes, characters, imports and strings."""

import ast
import pathlib
import unittest

PACKAGE = pathlib.Path(__file__).resolve().parent.parent / "keyspans"
FILES = sorted(PACKAGE.glob("*.py"))
LIBRARY = ("heapq", "itertools", "math")


def defined(module):
    tree = ast.parse((PACKAGE.parent / (module.replace(".", "/") + ".py")).read_text())
    return [node.name for node in tree.body if isinstance(node, (ast.FunctionDef, ast.ClassDef))]


class FormTest(unittest.TestCase):

    def test_the_folder_holds_nothing_else(self):
        others = [path.name for path in PACKAGE.iterdir() if path not in FILES and path.name != "__pycache__"]
        self.assertEqual(others, [])

    def test_lines_and_characters(self):
        for path in FILES:
            lines = path.read_text().split("\n")
            with self.subTest(path.name):
                self.assertLessEqual(len(lines), 400)
                self.assertLessEqual(max(len(line) for line in lines), 120)
                self.assertTrue(all(" " <= letter <= "~" for line in lines for letter in line))

    def test_functions_are_small(self):
        for path in FILES:
            for node in ast.walk(ast.parse(path.read_text())):
                if isinstance(node, ast.FunctionDef):
                    with self.subTest((path.name, node.name)):
                        self.assertLessEqual(node.end_lineno - node.lineno + 1, 40)

    def test_imports(self):
        for path in FILES:
            for node in ast.walk(ast.parse(path.read_text())):
                self.assertNotIsInstance(node, ast.Import)
                if isinstance(node, ast.ImportFrom) and node.module not in LIBRARY:
                    with self.subTest((path.name, node.module)):
                        self.assertTrue(node.module.startswith("keyspans."))
                        self.assertLessEqual({name.name for name in node.names}, set(defined(node.module)))

    def test_strings(self):
        for path in FILES:
            for node in ast.walk(ast.parse(path.read_text())):
                if isinstance(node, ast.Constant) and isinstance(node.value, str):
                    self.assertNotIn(chr(37), node.value)
                self.assertNotIsInstance(getattr(node, "value", None), float)


if __name__ == "__main__":
    unittest.main()
