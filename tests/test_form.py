"""The form of the package's files: rules L1, L10 and L14 of the language, as far as a test can see them."""

import ast
import pathlib
import unittest

import onestaff

FOLDER = pathlib.Path(onestaff.__file__).parent


def texts():
    return {path.name: path.read_text(encoding="utf-8") for path in sorted(FOLDER.glob("*.py"))}


class Form(unittest.TestCase):
    def test_only_python_files(self):
        found = [path.name for path in FOLDER.iterdir() if path.name != "__pycache__"]
        self.assertEqual(sorted(found), sorted(texts()))

    def test_signs_and_sizes(self):
        for name, text in texts().items():
            self.assertEqual([sign for sign in text if sign != "\n" and not " " <= sign <= "~"], [], name)
            rows = text.splitlines()
            self.assertLess(len(rows), 400, name)
            self.assertEqual([row for row in rows if len(row) > 120], [], name)

    def test_functions_are_small(self):
        for name, text in texts().items():
            for node in ast.walk(ast.parse(text)):
                if isinstance(node, ast.FunctionDef):
                    self.assertLessEqual(node.end_lineno - node.lineno + 1, 40, f"{name}: {node.name}")

    def test_imports_are_of_the_package_alone(self):
        for name, text in texts().items():
            for node in ast.walk(ast.parse(text)):
                self.assertNotIsInstance(node, ast.Import, name)
                if isinstance(node, ast.ImportFrom):
                    self.assertTrue(node.module.startswith("onestaff."), f"{name}: {node.module}")


if __name__ == "__main__":
    unittest.main()
