"""The form of the package, as far as a few plain looks at its files can tell."""

import ast
import unittest
from pathlib import Path

FOLDER = Path(__file__).resolve().parent.parent / "stonerow"
FILES = sorted(FOLDER.glob("*.py"))
BUILTINS = {
    "len", "range", "enumerate", "zip", "min", "max", "sum", "abs", "sorted", "reversed", "int", "str", "bool",
    "list", "tuple", "dict", "set", "isinstance", "any", "all", "repr", "ValueError",
}


class Form(unittest.TestCase):
    def test_the_folder_holds_files_of_python_only(self):
        held = [path.name for path in FOLDER.iterdir() if path.name != "__pycache__"]
        self.assertEqual(sorted(held), [path.name for path in FILES])
        self.assertIn("__init__.py", held)

    def test_signs_and_sizes(self):
        for path in FILES:
            lines = path.read_bytes().decode("ascii").split("\n")
            with self.subTest(path=path.name):
                self.assertLessEqual(len(lines), 399)
                self.assertLessEqual(max(len(line) for line in lines), 120)
                self.assertTrue(all(" " <= sign <= "~" for line in lines for sign in line))

    def test_functions_are_small(self):
        for path in FILES:
            for node in ast.walk(ast.parse(path.read_text())):
                if isinstance(node, ast.FunctionDef):
                    with self.subTest(path=path.name, function=node.name):
                        self.assertLessEqual(node.end_lineno - node.lineno + 1, 40)

    def test_imports_come_from_the_package_only(self):
        # So nothing can reach a clock, a random source or a file.
        for path in FILES:
            for node in ast.walk(ast.parse(path.read_text())):
                with self.subTest(path=path.name):
                    self.assertNotIsInstance(node, (ast.Import, ast.Global, ast.Nonlocal))
                    if isinstance(node, ast.ImportFrom):
                        self.assertTrue(node.module.startswith("stonerow."))
                        self.assertEqual(node.level, 0)

    def test_only_plain_builtins_are_called(self):
        for path in FILES:
            tree = ast.parse(path.read_text())
            own = {node.name for node in ast.walk(tree) if isinstance(node, (ast.FunctionDef, ast.ClassDef))}
            imported = {alias.name for node in ast.walk(tree) if isinstance(node, ast.ImportFrom)
                        for alias in node.names}
            for node in ast.walk(tree):
                if isinstance(node, ast.Call) and isinstance(node.func, ast.Name):
                    with self.subTest(path=path.name, name=node.func.id):
                        self.assertIn(node.func.id, BUILTINS | own | imported)


if __name__ == "__main__":
    unittest.main()
