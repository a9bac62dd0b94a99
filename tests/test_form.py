"""The interface as it is listed, and the form of the package's files."""

import ast
import importlib
import inspect
import unittest
from pathlib import Path

PACKAGE = Path(__file__).resolve().parent.parent / "retrysafe"

# For each file that has landed: its classes with their arguments, properties and methods, and its functions.
INTERFACE = {
    "spaces": {"Space": ("width vectors=()", "basis width", {"is_within": "other"})},
    "jobs": {"Job": ("stores arguments temps steps",
                     "stores arguments temps steps variables executions places", {"statement": "place"})},
}


def written(action, skipped=1):
    """The parameters of a function as they are written in the interface."""
    told = [str(parameter) for parameter in inspect.signature(action).parameters.values()]
    return " ".join(told[skipped:])


def files():
    return sorted(path for path in PACKAGE.rglob("*") if path.is_file() and "__pycache__" not in path.parts)


class TestInterface(unittest.TestCase):
    def test_classes_are_defined_in_their_files(self):
        for name, classes in INTERFACE.items():
            module = importlib.import_module("retrysafe." + name)
            for word, (arguments, properties, methods) in classes.items():
                found = getattr(module, word)
                self.assertEqual(found.__module__, module.__name__)
                self.assertEqual(written(found.__init__), arguments)
                for one in properties.split():
                    self.assertIsInstance(vars(found)[one], property)
                for one, told in methods.items():
                    self.assertEqual(written(vars(found)[one]), told)


class TestForm(unittest.TestCase):
    def test_the_folder_contains_python_files_alone(self):
        self.assertEqual({path.suffix for path in files()}, {".py"})
        self.assertTrue((PACKAGE / "__init__.py").is_file())

    def test_characters_and_lengths(self):
        for path in files():
            lines = path.read_bytes().decode("ascii").split("\n")
            self.assertLess(len(lines), 400, path)
            for number, line in enumerate(lines, 1):
                self.assertLessEqual(len(line), 120, (path, number))
                self.assertTrue(all(" " <= letter <= "~" for letter in line), (path, number))

    def test_functions_have_at_most_forty_lines(self):
        for path in files():
            for node in ast.walk(ast.parse(path.read_text())):
                if isinstance(node, ast.FunctionDef):
                    self.assertLessEqual(node.end_lineno - node.lineno, 39, (path, node.name))

    def test_imports_are_those_that_are_allowed(self):
        for path in files():
            for node in ast.walk(ast.parse(path.read_text())):
                self.assertNotIsInstance(node, ast.Import, path)
                if isinstance(node, ast.ImportFrom):
                    self.assertTrue(node.module in ("math",) or node.module.startswith("retrysafe."), path)


if __name__ == "__main__":
    unittest.main()
