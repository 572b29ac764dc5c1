"""What ../shared/LANGUAGE.md says of the files of the package, as far as it is quickly told."""

import ast
import pathlib
import unittest

FOLDER = pathlib.Path(__file__).resolve().parent.parent / "mendvault"
FILES = sorted(FOLDER.glob("*.py"))


class FilesTest(unittest.TestCase):
    def test_there_is_nothing_else(self):
        here = [each for each in FOLDER.iterdir() if each.name != "__pycache__"]
        self.assertEqual(sorted(here), FILES)
        self.assertIn(FOLDER / "__init__.py", FILES)

    def test_characters(self):
        for file in FILES:
            with self.subTest(file.name):
                text = file.read_bytes().decode("ascii")
                self.assertEqual([sign for sign in text if sign != "\n" and not " " <= sign <= "~"], [])

    def test_lengths(self):
        for file in FILES:
            with self.subTest(file.name):
                lines = file.read_text().splitlines()
                self.assertLessEqual(len(lines), 399)
                self.assertLessEqual(max(len(line) for line in lines), 120)

    def test_functions_are_short(self):
        for file in FILES:
            for node in ast.walk(ast.parse(file.read_text())):
                if isinstance(node, ast.FunctionDef):
                    with self.subTest(file.name, function=node.name):
                        self.assertLessEqual(node.end_lineno - node.lineno + 1, 40)

    def test_imports_are_from_the_package(self):
        for file in FILES:
            for node in ast.walk(ast.parse(file.read_text())):
                with self.subTest(file.name):
                    self.assertNotIsInstance(node, ast.Import)
                    if isinstance(node, ast.ImportFrom):
                        self.assertTrue(node.module.startswith("mendvault."))
                        self.assertEqual([name.asname for name in node.names if name.asname or name.name == "*"], [])

    def test_strings_have_no_percent_sign(self):
        for file in FILES:
            for node in ast.walk(ast.parse(file.read_text())):
                if isinstance(node, ast.Constant) and isinstance(node.value, str):
                    with self.subTest(file.name, line=node.lineno):
                        self.assertNotIn("%", node.value)
