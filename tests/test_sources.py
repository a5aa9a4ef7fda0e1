"""Point 1: nothing in the program uses a clock, chance or files."""

import ast
import unittest
from pathlib import Path

FOLDER = Path(__file__).resolve().parent.parent / "knowthree"

OUTSIDE = ["open", "input", "print", "eval", "exec", "compile", "hash", "id", "__import__", "__builtins__"]


class SourcesTest(unittest.TestCase):

    def trees(self):
        files = sorted(FOLDER.glob("**/*.py"))
        self.assertTrue(files)
        for file in files:
            yield file.name, ast.parse(file.read_text(encoding="utf-8"))

    def test_only_the_programs_own_modules_are_imported(self):
        for name, tree in self.trees():
            for node in ast.walk(tree):
                with self.subTest(file=name, line=getattr(node, "lineno", 0)):
                    self.assertNotIsInstance(node, ast.Import)
                    if isinstance(node, ast.ImportFrom):
                        self.assertEqual(node.level, 0)
                        self.assertEqual(node.module.split(".")[0], "knowthree")

    def test_nothing_that_reaches_outside_is_named(self):
        for name, tree in self.trees():
            for node in ast.walk(tree):
                if isinstance(node, ast.Name):
                    with self.subTest(file=name, line=node.lineno):
                        self.assertNotIn(node.id, OUTSIDE)


if __name__ == "__main__":
    unittest.main()
