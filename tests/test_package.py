"""The interface stands as the document lists it, and the files keep to their sizes."""

import ast
import importlib
import inspect
import unittest
from pathlib import Path

FOLDER = Path(__file__).resolve().parent.parent / "knotweb"

FUNCTIONS = {
    "knotweb.formulas": {
        "need_formula": "(thing)",
        "need_order": "(thing)",
        "names_in": "(formula)",
        "is_yes": "(formula, row)",
        "rows_of": "(formula, order)",
        "hangs_on": "(formula)",
        "differ_at": "(formula, other)",
        "joined": "(word, formulas, *, empty=('yes',))",
    },
    "knotweb.formulatexts": {
        "formula_text": "(formula)",
        "read_formula": "(text)",
    },
}


class Interface(unittest.TestCase):
    def test_functions_stand_where_they_are_listed(self):
        for module, functions in FUNCTIONS.items():
            for word, arguments in functions.items():
                with self.subTest(module=module, word=word):
                    function = getattr(importlib.import_module(module), word)
                    self.assertEqual(function.__module__, module)
                    self.assertEqual(str(inspect.signature(function)), arguments)

    def test_values_of_formulas(self):
        formulas = importlib.import_module("knotweb.formulas")
        self.assertEqual((formulas.MOST_NAMES, formulas.MOST_PARTS), (10, 60))
        self.assertEqual((formulas.YES, formulas.NO), (("yes",), ("no",)))


class Files(unittest.TestCase):
    def test_folder_holds_plain_files_of_python_alone(self):
        for path in FOLDER.iterdir():
            if path.name != "__pycache__":
                self.assertRegex(path.name, r"\A[a-z_]+\.py\Z")

    def test_sizes_and_signs(self):
        for path in FOLDER.glob("*.py"):
            text = path.read_text(encoding="utf-8")
            self.assertLessEqual(len(text.splitlines()), 399, path.name)
            for row in text.split("\n"):
                self.assertLessEqual(len(row), 120, path.name)
                self.assertRegex(row, r"\A[ -~]*\Z", path.name)
            for node in ast.walk(ast.parse(text)):
                if isinstance(node, ast.FunctionDef):
                    self.assertLessEqual(node.end_lineno - node.lineno + 1, 40, node.name)

    def test_imports_are_of_the_package_or_the_few_words_beside(self):
        for path in FOLDER.glob("*.py"):
            for node in ast.walk(ast.parse(path.read_text(encoding="utf-8"))):
                self.assertNotIsInstance(node, ast.Import, path.name)
                if isinstance(node, ast.ImportFrom):
                    self.assertEqual(node.level, 0)
                    allowed = node.module.startswith("knotweb.") or node.module in (
                        "heapq", "math", "itertools", "collections")
                    self.assertTrue(allowed, node.module)


if __name__ == "__main__":
    unittest.main()
