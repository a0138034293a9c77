"""Each name of the document's interface stands in its own file."""

import ast
import inspect
import unittest
from importlib import import_module
from pathlib import Path

PACKAGE = Path(__file__).resolve().parent.parent / "rowsworn"

CLASSES = {"errors": ["RowError", "NotWhole", "NoFraction", "BadText"]}

FUNCTIONS = {
    "fractions": {
        "fraction": ["p", "q"],
        "plus": ["x", "y"],
        "minus": ["x", "y"],
        "times": ["x", "y"],
        "over": ["x", "y"],
    },
    "rows": {"bound": ["e"], "values": ["e", "count"], "value": ["e", "place"]},
    "keeping": {
        "keeps": ["e", "recurrence"],
        "determinant": ["e", "d"],
        "is_shortest": ["e", "recurrence"],
    },
    "shortest": {
        "shortest": ["e"],
        "order_of": ["fractions"],
        "recurrence_for": ["fractions"],
        "is_forced": ["fractions"],
    },
    "judge": {"judge": ["e", "f"], "accepts": ["e", "f", "paper"]},
    "whole": {"first_part": ["e"], "remainder_at": ["e", "place", "m"]},
    "periods": {"period": ["e", "m"], "period_holds": ["e", "m", "ahead", "length"]},
    "texts": {"write_row": ["e"], "read_row": ["text"]},
}


def defined_in(file_name):
    tree = ast.parse((PACKAGE / f"{file_name}.py").read_text(encoding="utf-8"))
    return {node.name for node in tree.body if isinstance(node, (ast.FunctionDef, ast.ClassDef))}


class InterfaceTest(unittest.TestCase):
    def test_the_classes_are_defined_in_their_file(self):
        for file_name, names in CLASSES.items():
            self.assertLessEqual(set(names), defined_in(file_name))

    def test_the_functions_are_defined_in_their_file_with_their_arguments(self):
        for file_name, functions in FUNCTIONS.items():
            module = import_module(f"rowsworn.{file_name}")
            self.assertLessEqual(set(functions), defined_in(file_name))
            for name, arguments in functions.items():
                told = list(inspect.signature(getattr(module, name)).parameters)
                self.assertEqual(told, arguments, name)

    def test_the_package_holds_python_files_alone(self):
        for path in PACKAGE.iterdir():
            if path.name != "__pycache__":
                self.assertEqual(path.suffix, ".py", path)

    def test_the_sizes_that_the_language_rules_tell(self):
        for path in PACKAGE.glob("*.py"):
            text = path.read_text(encoding="ascii")
            lines = text.splitlines()
            self.assertLessEqual(len(lines), 399, path)
            self.assertLessEqual(max(map(len, lines), default=0), 120, path)
            self.assertNotIn("\t", text, path)
            for node in ast.walk(ast.parse(text)):
                if isinstance(node, ast.FunctionDef):
                    self.assertLessEqual(node.end_lineno - node.lineno + 1, 40, node.name)


if __name__ == "__main__":
    unittest.main()
