"""The form of the package's files, as far as a few simple rules tell it."""

import ast
import pathlib
import re
import unittest

PACKAGE = pathlib.Path(__file__).resolve().parent.parent / "levelcolumns"

INTERFACE = {
    "schemas": "Schema kinds leaf_nodes way_of meeting cut matching", "documents": "table_fault cut_table",
    "columns": "column_of split column_fault table_of", "fitting": "prefix first_misfit joined",
    "misfits": "misfits greatest_fit count_greatest suspects misfit_groups shows_groups",
    "questions": "lowest is_enough fewest_leaves lightest_leaves parted shows_parted",
    "packing": "carriers packed unpacked", "masks": "mask filtered", "asks": "needs_of told_of answered",
    "edits": "put_element take_element set_maybe set_value put_document take_document stretch",
    "evolve": "with_field cut_columns into_maybe into_list out_of", "machines": "next_leaf entries_of",
    "counts": "count_tables", "pages": "page_numbers cut_pages page_state parted_pages shows_parted_pages bits_by_pages",
    "live": "LiveTable", "texts": "write_column read_column write_test read_test", "session": "session"}

METHODS = ("__init__ put_element take_element set_maybe set_value put_document take_document keep columns table ask "
           "__len__ undo mark undo_to twin")


class Form(unittest.TestCase):

    def setUp(self):
        self.files = sorted(PACKAGE.glob("*.py"))
        self.texts = {file.name: file.read_text(encoding="utf-8") for file in self.files}

    def test_the_folder_holds_files_of_the_program_alone(self):
        others = [entry.name for entry in PACKAGE.iterdir() if entry not in self.files]
        self.assertIn(others, [[], ["__pycache__"]])
        self.assertIn("__init__.py", self.texts)

    def test_lines_and_characters(self):
        for name, text in self.texts.items():
            lines = text.splitlines()
            self.assertLessEqual(len(lines), 399, name)
            for line in lines:
                self.assertLessEqual(len(line), 120, name)
                self.assertTrue(all(" " <= sign <= "~" for sign in line), (name, line))

    def test_functions_are_small(self):
        for name, text in self.texts.items():
            for part in ast.walk(ast.parse(text)):
                if isinstance(part, ast.FunctionDef):
                    self.assertLessEqual(part.end_lineno - part.lineno + 1, 40, (name, part.name))

    def test_imports_are_of_the_package_and_of_what_the_rules_name(self):
        for name, text in self.texts.items():
            for part in ast.walk(ast.parse(text)):
                self.assertNotIsInstance(part, ast.Import, name)
                if isinstance(part, ast.ImportFrom) and part.module == "math":
                    self.assertEqual([alias.name for alias in part.names], ["comb"], name)
                elif isinstance(part, ast.ImportFrom):
                    self.assertTrue(part.module.startswith("levelcolumns."), name)
                    self.assertTrue(part.module.replace("levelcolumns.", "") + ".py" in self.texts, name)

    def test_what_is_imported_stands_in_the_file_that_is_named(self):
        for name, text in self.texts.items():
            for part in ast.walk(ast.parse(text)):
                if isinstance(part, ast.ImportFrom) and part.module != "math":
                    other = ast.parse(self.texts[part.module.replace("levelcolumns.", "") + ".py"])
                    own = {inner.name for inner in other.body if isinstance(inner, (ast.FunctionDef, ast.ClassDef))}
                    own |= {target.id for inner in other.body if isinstance(inner, ast.Assign)
                            for target in inner.targets}
                    self.assertTrue({alias.name for alias in part.names} <= own, (name, part.module))

    def test_files_do_not_import_each_other_in_a_circle(self):
        needed = {}
        for name, text in self.texts.items():
            needed[name] = {part.module.replace("levelcolumns.", "") + ".py" for part in ast.walk(ast.parse(text))
                            if isinstance(part, ast.ImportFrom) and part.module != "math"}
        while needed:
            free = [name for name, others in needed.items() if not others & set(needed)]
            self.assertTrue(free, sorted(needed))
            for name in free:
                del needed[name]

    def test_no_name_of_the_package_is_left_unused(self):
        texts = "\n".join(self.texts.values())
        for name, text in self.texts.items():
            for part in ast.walk(ast.parse(text)):
                if isinstance(part, ast.ImportFrom):
                    for alias in part.names:
                        self.assertGreater(len(re.findall(rf"\b{alias.name}\b", text)), 1, (name, alias.name))
                if isinstance(part, ast.FunctionDef) and part.name.startswith("_") and part.name[1] != "_":
                    self.assertGreater(len(re.findall(rf"\b{part.name}\b", texts)), 1, (name, part.name))

    def test_the_interface_is_defined_where_it_is_listed(self):
        for name, listed in INTERFACE.items():
            defined = [part.name for part in ast.parse(self.texts[name + ".py"]).body
                       if isinstance(part, (ast.FunctionDef, ast.ClassDef))]
            self.assertTrue(set(listed.split()) <= set(defined), name)

    def test_the_methods_stand_in_the_classes_that_list_them(self):
        for name, kind, listed in [("live", "LiveTable", METHODS), ("schemas", "Schema", "__init__ __len__ __eq__ text")]:
            for part in ast.parse(self.texts[name + ".py"]).body:
                if isinstance(part, ast.ClassDef) and part.name == kind:
                    defined = [inner.name for inner in part.body if isinstance(inner, ast.FunctionDef)]
                    self.assertTrue(set(listed.split()) <= set(defined), kind)


if __name__ == "__main__":
    unittest.main()
