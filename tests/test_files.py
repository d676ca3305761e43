"""The package's files: the interface where it is due, and the rules of form that are easy to count."""

import ast
import inspect
import importlib
import pathlib
import unittest

FOLDER = pathlib.Path(__file__).resolve().parent.parent / "fallingback"

INTERFACE = {
    "pasts": {
        "is_name": ["thing"], "is_past": ["thing"], "order_of": ["past"], "presents": ["past"],
        "told_in": ["past", "letter"], "heard_in": ["past", "letter"], "letters_lying": ["past"],
    },
    "zigzags": {"is_zigzag": ["past", "one", "other", "thing"], "zigzag_between": ["past", "one", "other"]},
    "lines": {
        "is_line": ["past", "thing"], "lines_with": ["past", "points"], "earlier_of": ["past", "line", "other"],
        "later_of": ["past", "line", "other"], "lines_between": ["past", "line", "other"],
    },
    "falls": {
        "fall_line": ["past", "hands"], "deeds_lost": ["past", "hands"], "letters_after": ["past", "hands"],
        "why_back": ["past", "hands", "hand"], "is_why": ["past", "hands", "hand", "thing"],
    },
    "needed": {
        "useless_points": ["past"], "needed_points": ["past"], "needed_by": ["past", "point"], "thinned_past": ["past"],
    },
    "nets": {"Net": ["hands", "wary"]},
    "safe": {"safe_line": ["past"], "must_keep": ["past", "part"]},
    "warily": {"is_wary": ["past"], "numbers_of": ["past", "point"]},
    "texts": {"show_past": ["past"], "show_line": ["line"], "read_past": ["text"], "read_line": ["text"]},
    "desk": {"Desk": []},
}

METHODS = {
    "Net": {"tell": ["one", "other"], "keep": ["hand"], "hear": ["letter"], "fall": ["hands"], "past": [], "lying": []},
    "Desk": {"say": ["row"]},
}


def sources():
    """The package's files by their names, with their texts."""
    return {path.name: path.read_text(encoding="ascii") for path in sorted(FOLDER.glob("*.py"))}


class InterfaceTest(unittest.TestCase):
    def test_each_function_is_defined_in_its_file_with_its_arguments(self):
        for module, functions in INTERFACE.items():
            held = importlib.import_module("fallingback." + module)
            for name, arguments in functions.items():
                with self.subTest(name):
                    function = getattr(held, name)
                    self.assertEqual(function.__module__, "fallingback." + module)
                    self.assertEqual(list(inspect.signature(function).parameters), arguments)

    def test_each_method_is_defined_in_its_class_with_its_arguments(self):
        for name, methods in METHODS.items():
            module = [module for module, held in INTERFACE.items() if name in held][0]
            held = vars(getattr(importlib.import_module("fallingback." + module), name))
            for method, arguments in methods.items():
                with self.subTest(name, method=method):
                    self.assertEqual(list(inspect.signature(held[method]).parameters), ["self"] + arguments)


class FormTest(unittest.TestCase):
    def test_the_folder_holds_only_its_files(self):
        others = [path.name for path in FOLDER.iterdir() if path.suffix != ".py" and path.name != "__pycache__"]
        self.assertEqual(others, [])
        self.assertIn("__init__.py", sources())

    def test_sizes(self):
        for name, text in sources().items():
            with self.subTest(name):
                lines = text.split("\n")
                self.assertLess(len(lines), 400)
                self.assertLessEqual(max(len(line) for line in lines), 120)
                self.assertNotIn("\t", text)
                for node in ast.walk(ast.parse(text)):
                    if isinstance(node, ast.FunctionDef):
                        self.assertLessEqual(node.end_lineno - node.lineno + 1, 40, node.name)

    def test_imports_are_of_the_package(self):
        for name, text in sources().items():
            for node in ast.walk(ast.parse(text)):
                if isinstance(node, (ast.Import, ast.ImportFrom)):
                    with self.subTest(name, line=node.lineno):
                        self.assertIsInstance(node, ast.ImportFrom)
                        self.assertTrue(node.module.startswith("fallingback."))
                        self.assertEqual(node.level, 0)

    def test_no_floats_and_no_percent_signs(self):
        for name, text in sources().items():
            for node in ast.walk(ast.parse(text)):
                if isinstance(node, ast.Constant):
                    with self.subTest(name, line=node.lineno):
                        self.assertNotIsInstance(node.value, (float, complex))
                        self.assertNotIn("%", str(node.value))


if __name__ == "__main__":
    unittest.main()
