"""The rules of form that can be read off the files of the package: L1, L2, L10, L14 and L27."""

import ast
import pathlib
import re
import unittest
import warnings

TOP = pathlib.Path(__file__).resolve().parent.parent
PACKAGE = TOP / "wordfit"
LIBRARY = ("__future__", "heapq", "math", "itertools", "collections")


def files():
    """What the package's folder contains, without what Python itself leaves there."""
    return [path for path in sorted(PACKAGE.rglob("*")) if "__pycache__" not in path.parts]


class FormTest(unittest.TestCase):
    def test_the_package_is_one_folder_of_python_files(self):
        self.assertIn(PACKAGE / "__init__.py", files())
        for path in files():
            with self.subTest(file=path.name):
                self.assertTrue(path.is_file())
                self.assertTrue(re.fullmatch(r"[a-z0-9_]+\.py", path.name))
                self.assertFalse(path.name.startswith("test"))

    def test_characters_and_sizes(self):
        for path in files():
            lines = path.read_bytes().decode("ascii").split("\n")
            self.assertLessEqual(len(lines) - 1, 399, path.name)
            for number, line in enumerate(lines, 1):
                with self.subTest(file=path.name, line=number):
                    self.assertLessEqual(len(line), 120)
                    self.assertTrue(all(" " <= sign <= "~" for sign in line))

    def test_functions_have_at_most_forty_lines(self):
        for path in files():
            for node in ast.walk(ast.parse(path.read_text())):
                if isinstance(node, ast.FunctionDef):
                    with self.subTest(file=path.name, function=node.name):
                        self.assertLessEqual(node.end_lineno - node.lineno + 1, 40)

    def test_imports(self):
        for path in files():
            for node in ast.walk(ast.parse(path.read_text())):
                with self.subTest(file=path.name):
                    self.assertNotIsInstance(node, ast.Import)
                    if isinstance(node, ast.ImportFrom):
                        self.assertEqual(node.level, 0)
                        self.assertTrue(node.module in LIBRARY or node.module.startswith("wordfit."))

    def test_python_gives_no_warning(self):
        for path in files():
            with self.subTest(file=path.name), warnings.catch_warnings():
                warnings.simplefilter("error")
                compile(path.read_text(), str(path), "exec")


if __name__ == "__main__":
    unittest.main()
