"""The interface stands as the document lists it, and the files keep to their sizes."""

import ast
import importlib
import inspect
import unittest
from pathlib import Path

FOLDER = Path(__file__).resolve().parent.parent / "knotweb"

FUNCTIONS = {
    "knotweb.formulas": {
        "need_formula": "(thing)",
        "need_order": "(thing)",
        "names_in": "(formula)",
        "is_yes": "(formula, row)",
        "rows_of": "(formula, order)",
        "hangs_on": "(formula)",
        "differ_at": "(formula, other)",
        "joined": "(word, formulas, *, empty=('yes',))",
    },
    "knotweb.formulatexts": {
        "formula_text": "(formula)",
        "read_formula": "(text)",
    },
    "knotweb.tables": {
        "table_of": "(formula, order)",
        "need_table": "(order, thing)",
        "at_row": "(order, table, row)",
        "formula_of": "(order, table)",
        "knots_by": "(order, table)",
    },
    "knotweb.papers": {
        "paper_of": "(formula, order)",
        "need_paper": "(formula, order, thing)",
        "is_apart": "(formula, other, row)",
    },
    "knotweb.webs": {
        "Web": "(order, *, room=2000)",
    },
    "knotweb.families": {
        "need_family": "(order, thing)",
        "sheet_of": "(order, family)",
        "need_sheet": "(order, thing)",
        "family_of": "(order, sheet)",
    },
    "knotweb.shelves": {
        "Shelf": "(order, *, room=2000)",
    },
    "knotweb.covers": {
        "primes_of": "(formula)",
        "cover_of": "(formula)",
        "cover_paper": "(formula)",
        "need_cover": "(formula, cover, rows)",
    },
    "knotweb.measures": {
        "need_measure": "(thing)",
        "value_at": "(measure, row)",
        "ledger_of": "(measure, order)",
        "numbers_of": "(measure)",
        "greatest_at": "(measure, order)",
        "summed": "(measure, order, names)",
        "share_of": "(formula, chances)",
        "mean_of": "(measure, chances)",
    },
    "knotweb.machines": {
        "need_machine": "(thing)",
        "after": "(machine, states)",
        "ahead": "(machine, states)",
        "layers": "(machine)",
        "run_to": "(machine, formula)",
        "need_run": "(machine, formula, thing)",
        "never_paper": "(machine, formula)",
        "need_never": "(machine, formula, thing)",
        "need_saying": "(machine, thing)",
        "so_at": "(machine, saying)",
        "rounds_of": "(machine, saying)",
    },
    "knotweb.leastorders": {
        "least_order": "(formula)",
        "width_of": "(formula, name, beneath)",
        "bounds_of": "(formula)",
        "need_bounds": "(formula, thing)",
    },
    "knotweb.tabletexts": {
        "table_text": "(order, table)",
        "read_table": "(text)",
        "taken": "(web, order, table)",
    },
    "knotweb.sessions": {
        "Session": "(order, *, room=2000)",
    },
    "knotweb.desk": {
        "Desk": "()",
    },
}

METHODS = {
    ("knotweb.webs", "Web"): {
        "make": "(self, formula)",
        "of_rows": "(self, rows)",
        "contrary": "(self, h)",
        "both": "(self, h, k)",
        "either": "(self, h, k)",
        "unlike": "(self, h, k)",
        "choice": "(self, h, k, l)",
        "some": "(self, h, names)",
        "all_of": "(self, h, names)",
        "put": "(self, h, name, k)",
        "fixed": "(self, h, name, truth)",
        "within": "(self, h, c)",
        "again": "(self, h)",
        "let_go": "(self, h)",
        "collect": "(self)",
        "kept": "(self)",
        "many": "(self)",
        "by_name": "(self)",
        "order": "(self)",
        "room": "(self)",
        "handles": "(self)",
        "table": "(self, h)",
        "formula": "(self, h)",
        "is_yes": "(self, h, row)",
        "is_one": "(self, h, k)",
        "implies": "(self, h, k)",
        "apart_at": "(self, h, k)",
        "hangs_on": "(self, h)",
        "many_rows": "(self, h)",
        "first_row": "(self, h)",
        "rows": "(self, h, *, most=1024)",
        "size": "(self, h)",
        "swap": "(self, level)",
        "move": "(self, name, place)",
        "to_order": "(self, order)",
        "sift": "(self, name)",
        "sift_all": "(self)",
        "add_name": "(self, name, *, place=None)",
        "drop_name": "(self, name)",
        "set_room": "(self, room)",
        "deeds": "(self)",
        "log": "(self)",
        "busy": "(self)",
        "copy": "(self)",
        "__len__": "(self)",
        "__eq__": "(self, other)",
        "__str__": "(self)",
        "__repr__": "(self)",
    },
    ("knotweb.shelves", "Shelf"): {
        "make": "(self, family)",
        "union": "(self, h, k)",
        "common": "(self, h, k)",
        "less": "(self, h, k)",
        "join": "(self, h, k)",
        "meets": "(self, h, k)",
        "quotient": "(self, h, k)",
        "remainder": "(self, h, k)",
        "least": "(self, h)",
        "greatest": "(self, h)",
        "holding": "(self, h, k)",
        "lying": "(self, h, k)",
        "cuts": "(self, h)",
        "with_name": "(self, h, name)",
        "rest": "(self, h, name)",
        "changed": "(self, h, name)",
        "family": "(self, h)",
        "sheet": "(self, h)",
        "count": "(self, h)",
        "set_at": "(self, h, number)",
        "number_of": "(self, h, row)",
        "lightest": "(self, h, weights)",
        "is_one": "(self, h, k)",
        "let_go": "(self, h)",
        "many": "(self)",
        "order": "(self)",
        "room": "(self)",
        "handles": "(self)",
        "to_order": "(self, order)",
        "copy": "(self)",
        "__len__": "(self)",
        "__eq__": "(self, other)",
        "__str__": "(self)",
        "__repr__": "(self)",
    },
    ("knotweb.sessions", "Session"): {
        "do": "(self, *, deeds)",
        "bound": "(self)",
        "order": "(self)",
        "room": "(self)",
        "many": "(self)",
        "is_same": "(self, formula, other)",
        "table": "(self, formula)",
        "undo": "(self)",
        "undone": "(self)",
        "log": "(self)",
        "busy": "(self)",
        "copy": "(self)",
        "__eq__": "(self, other)",
        "__len__": "(self)",
        "__str__": "(self)",
        "__repr__": "(self)",
    },
    ("knotweb.desk", "Desk"): {
        "say": "(self, line)",
    },
}


class Interface(unittest.TestCase):
    def test_functions_stand_where_they_are_listed(self):
        for module, functions in FUNCTIONS.items():
            for word, arguments in functions.items():
                with self.subTest(module=module, word=word):
                    function = getattr(importlib.import_module(module), word)
                    self.assertEqual(function.__module__, module)
                    self.assertEqual(str(inspect.signature(function)), arguments)

    def test_methods_stand_in_the_class_itself(self):
        for (module, word), methods in METHODS.items():
            its = vars(getattr(importlib.import_module(module), word))
            for method, arguments in methods.items():
                with self.subTest(word=word, method=method):
                    self.assertEqual(str(inspect.signature(its[method])), arguments)

    def test_values_of_tables(self):
        self.assertEqual(importlib.import_module("knotweb.tables").MOST_KNOTS, 2000)

    def test_values_of_formulas(self):
        formulas = importlib.import_module("knotweb.formulas")
        self.assertEqual((formulas.MOST_NAMES, formulas.MOST_PARTS), (10, 60))
        self.assertEqual((formulas.YES, formulas.NO), (("yes",), ("no",)))


class Files(unittest.TestCase):
    def test_folder_holds_plain_files_of_python_alone(self):
        for path in FOLDER.iterdir():
            if path.name != "__pycache__":
                self.assertRegex(path.name, r"\A[a-z_]+\.py\Z")

    def test_sizes_and_signs(self):
        for path in FOLDER.glob("*.py"):
            text = path.read_text(encoding="utf-8")
            self.assertLessEqual(len(text.splitlines()), 399, path.name)
            for row in text.split("\n"):
                self.assertLessEqual(len(row), 120, path.name)
                self.assertRegex(row, r"\A[ -~]*\Z", path.name)
            for node in ast.walk(ast.parse(text)):
                if isinstance(node, ast.FunctionDef):
                    self.assertLessEqual(node.end_lineno - node.lineno + 1, 40, node.name)

    def test_imports_are_of_the_package_or_the_few_words_beside(self):
        for path in FOLDER.glob("*.py"):
            for node in ast.walk(ast.parse(path.read_text(encoding="utf-8"))):
                self.assertNotIsInstance(node, ast.Import, path.name)
                if isinstance(node, ast.ImportFrom):
                    self.assertEqual(node.level, 0)
                    allowed = node.module.startswith("knotweb.") or node.module in (
                        "heapq", "math", "itertools", "collections")
                    self.assertTrue(allowed, node.module)


if __name__ == "__main__":
    unittest.main()
