"""The form of the package's files, as far as it can be measured simply."""

import ast
import unittest
from pathlib import Path

PACKAGE = Path(__file__).resolve().parent.parent / "openmarks"
# The compiled files that Python leaves behind are not part of the package.
PARTS = [p for p in sorted(PACKAGE.rglob("*")) if "__pycache__" not in p.parts]
FILES = [p for p in PARTS if p.suffix == ".py"]


class Form(unittest.TestCase):

    def test_folders(self):
        for part in PARTS:
            self.assertTrue(part.is_dir() or part in FILES, part)
            self.assertTrue(part in FILES or part / "__init__.py" in FILES, part)

    def test_characters_and_sizes(self):
        for file in FILES:
            text = file.read_text(encoding="utf-8")
            self.assertTrue(all(c == "\n" or " " <= c <= "~" for c in text), file)
            self.assertLessEqual(len(text.splitlines()), 399, file)
            self.assertLessEqual(max([len(row) for row in text.splitlines()], default=0), 120, file)

    def test_functions(self):
        for file in FILES:
            for part in ast.walk(ast.parse(file.read_text(encoding="utf-8"))):
                if isinstance(part, ast.FunctionDef):
                    self.assertLessEqual(part.end_lineno - part.lineno + 1, 40, (file, part.name))

    def test_imports(self):
        for file in FILES:
            for part in ast.walk(ast.parse(file.read_text(encoding="utf-8"))):
                self.assertNotIsInstance(part, ast.Import, file)
                if isinstance(part, ast.ImportFrom):
                    known = ("heapq", "math", "itertools", "collections", "__future__")
                    self.assertTrue(part.module in known or part.module.startswith("openmarks."), file)


if __name__ == "__main__":
    unittest.main()
