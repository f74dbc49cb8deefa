"""The package keeps to the sizes, characters and imports of its subset of Python."""

import ast
import unittest
from pathlib import Path

PACKAGE = Path(__file__).resolve().parent.parent / "wholenet"
FILES = sorted(PACKAGE.rglob("*.py"))
FUNCTIONS = (ast.FunctionDef, ast.AsyncFunctionDef)
AT_MODULE_LEVEL = (ast.ImportFrom, ast.FunctionDef, ast.ClassDef, ast.Assign, ast.AnnAssign)
BARRED = (ast.Div, ast.Global, ast.AsyncFunctionDef, ast.Import, ast.Await)


class Language(unittest.TestCase):
    def nodes(self):
        for file in FILES:
            for node in ast.walk(ast.parse(file.read_text())):
                yield file.name, getattr(node, "lineno", 0), node

    def test_the_folder_holds_nothing_else(self):
        self.assertIn(PACKAGE / "__init__.py", FILES)
        others = [path for path in PACKAGE.rglob("*") if path not in FILES and "__pycache__" not in path.parts]
        self.assertEqual(others, [])

    def test_sizes_and_characters(self):
        for file in FILES:
            text = file.read_text()
            self.assertLessEqual(len(text.splitlines()), 399, file)
            self.assertLessEqual(max(len(line) for line in text.splitlines()), 120, file)
            self.assertEqual([sign for sign in text if sign != "\n" and not " " <= sign <= "~"], [], file)

    def test_functions_have_at_most_forty_lines(self):
        for name, line, node in self.nodes():
            if isinstance(node, FUNCTIONS):
                self.assertLessEqual(node.end_lineno - node.lineno + 1, 40, (name, line))

    def test_imports_name_modules_of_the_package(self):
        for name, line, node in self.nodes():
            if isinstance(node, ast.ImportFrom):
                self.assertEqual((node.level, node.module.split(".")[0]), (0, "wholenet"), (name, line))
                self.assertNotIn("*", [alias.name for alias in node.names], (name, line))

    def test_no_float_division_or_other_barred_thing(self):
        for name, line, node in self.nodes():
            self.assertNotIsInstance(node, BARRED, (name, line))
            if isinstance(node, ast.Constant):
                self.assertNotIsInstance(node.value, (float, complex), (name, line))
                self.assertNotIn("%", str(node.value), (name, line))

    def test_module_level(self):
        for file in FILES:
            for at, node in enumerate(ast.parse(file.read_text()).body):
                if at or not isinstance(node, ast.Expr):
                    self.assertIsInstance(node, AT_MODULE_LEVEL, (file.name, node.lineno))


if __name__ == "__main__":
    unittest.main()
