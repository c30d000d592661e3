"""The form of the package's files, as far as a few simple rules tell it."""

import ast
import pathlib
import unittest

PACKAGE = pathlib.Path(__file__).resolve().parent.parent / "levelcolumns"


class Form(unittest.TestCase):

    def setUp(self):
        self.files = sorted(PACKAGE.glob("*.py"))
        self.texts = {file.name: file.read_text(encoding="utf-8") for file in self.files}

    def test_the_folder_holds_files_of_the_program_alone(self):
        others = [entry.name for entry in PACKAGE.iterdir() if entry not in self.files]
        self.assertIn(others, [[], ["__pycache__"]])
        self.assertIn("__init__.py", self.texts)

    def test_lines_and_characters(self):
        for name, text in self.texts.items():
            lines = text.splitlines()
            self.assertLessEqual(len(lines), 399, name)
            for line in lines:
                self.assertLessEqual(len(line), 120, name)
                self.assertTrue(all(" " <= sign <= "~" for sign in line), (name, line))

    def test_functions_are_small(self):
        for name, text in self.texts.items():
            for part in ast.walk(ast.parse(text)):
                if isinstance(part, ast.FunctionDef):
                    self.assertLessEqual(part.end_lineno - part.lineno + 1, 40, (name, part.name))

    def test_imports_are_of_the_package_alone(self):
        for name, text in self.texts.items():
            for part in ast.walk(ast.parse(text)):
                self.assertNotIsInstance(part, ast.Import, name)
                if isinstance(part, ast.ImportFrom):
                    self.assertIn(part.module.replace("levelcolumns.", "") + ".py", self.texts, name)


if __name__ == "__main__":
    unittest.main()
