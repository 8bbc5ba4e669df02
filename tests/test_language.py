"""The rules of the program's language that can be counted: files, sizes and characters."""

import ast
import pathlib
import unittest

PACKAGE = pathlib.Path(__file__).resolve().parent.parent / "queryheld"


class LanguageTest(unittest.TestCase):
    def setUp(self):
        self.files = sorted(PACKAGE.glob("*.py"))
        self.assertTrue(self.files)

    def test_the_package_holds_nothing_else(self):
        found = [path for path in PACKAGE.iterdir() if path.name != "__pycache__"]
        self.assertEqual(sorted(found), self.files)

    def test_sizes(self):
        for path in self.files:
            lines = path.read_text().split("\n")
            self.assertLessEqual(len(lines), 399, path.name)
            self.assertLessEqual(max(len(line) for line in lines), 120, path.name)

    def test_functions(self):
        for path in self.files:
            for node in ast.walk(ast.parse(path.read_text())):
                if isinstance(node, ast.FunctionDef):
                    self.assertLessEqual(node.end_lineno - node.lineno + 1, 40, (path.name, node.name))

    def test_characters(self):
        for path in self.files:
            strange = [c for c in path.read_bytes() if c != 10 and not 32 <= c <= 126]
            self.assertEqual(strange, [], path.name)

    def test_imports(self):
        for path in self.files:
            for node in ast.walk(ast.parse(path.read_text())):
                self.assertNotIsInstance(node, ast.Import, path.name)
                if isinstance(node, ast.ImportFrom):
                    self.assertEqual(node.level, 0, path.name)
                    self.assertEqual(node.module.split(".")[0], "queryheld", path.name)


if __name__ == "__main__":
    unittest.main()
