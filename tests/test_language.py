"""Some rules of the language that the files of the package are written in: sizes, characters, imports."""

import ast
import pathlib
import unittest

FOLDER = pathlib.Path(__file__).resolve().parent.parent / "joinhouse"
FILES = sorted(FOLDER.rglob("*.py"))
LIBRARY = {
    "heapq": ("heappush", "heappop", "heapify", "heapreplace", "heappushpop"),
    "math": ("gcd", "lcm", "isqrt", "comb", "perm", "factorial"),
}


class LanguageTest(unittest.TestCase):

    def test_there_are_files(self):
        self.assertIn(FOLDER / "__init__.py", FILES)
        for folder in {path.parent for path in FILES}:
            self.assertIn(folder / "__init__.py", FILES)

    def test_sizes_and_characters(self):
        for path in FILES:
            text = path.read_bytes()
            self.assertTrue(all(byte == 10 or 32 <= byte <= 126 for byte in text), path)
            lines = text.decode("ascii").split("\n")
            self.assertLessEqual(len(lines) - 1, 399, path)
            self.assertLessEqual(max(len(line) for line in lines), 120, path)

    def test_sizes_of_functions(self):
        for path in FILES:
            for node in ast.walk(ast.parse(path.read_text())):
                if isinstance(node, ast.FunctionDef):
                    self.assertLessEqual(node.end_lineno - node.lineno + 1, 40, (path, node.name))

    def test_imports(self):
        for path in FILES:
            for node in ast.walk(ast.parse(path.read_text())):
                self.assertNotIsInstance(node, ast.Import, path)
                if isinstance(node, ast.ImportFrom):
                    names = [alias.name for alias in node.names]
                    self.assertEqual([alias.asname for alias in node.names], [None] * len(names), path)
                    if not node.module.startswith("joinhouse."):
                        self.assertLessEqual(set(names), set(LIBRARY.get(node.module, ())), path)

    def test_barred_statements(self):
        barred = (ast.Global, ast.AsyncFunctionDef, ast.AsyncFor, ast.AsyncWith, ast.Await, ast.Div)
        for path in FILES:
            for node in ast.walk(ast.parse(path.read_text())):
                self.assertNotIsInstance(node, barred, path)


if __name__ == "__main__":
    unittest.main()
