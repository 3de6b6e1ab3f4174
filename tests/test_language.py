"""The package keeps those rules of its language that are plain to see."""

import ast
import os
import unittest

PACKAGE = os.path.join(os.path.dirname(os.path.dirname(os.path.abspath(__file__))), "coatrows")

BUILTINS = set(
    "len range enumerate zip min max sum abs sorted reversed int str bool bytes list tuple dict set frozenset "
    "isinstance ord repr any all divmod pow getattr hasattr setattr iter next map property staticmethod classmethod "
    "Exception ValueError TypeError KeyError IndexError LookupError ZeroDivisionError ArithmeticError OverflowError "
    "RuntimeError NotImplementedError AttributeError StopIteration NotImplemented super".split()
)
ALL_BUILTINS = set(dir(__builtins__) if not isinstance(__builtins__, dict) else __builtins__)
LIBRARY = {"heapq", "math", "itertools", "collections"}
BARRED = (ast.Global, ast.AsyncFunctionDef, ast.Import, ast.Await, ast.Div)


def sources():
    """Return the name and the text of each file of the package."""
    told = []
    for folder, _, names in os.walk(PACKAGE):
        for name in sorted(names):
            if "__pycache__" not in folder:
                with open(os.path.join(folder, name), encoding="utf-8") as file:
                    told.append((name, file.read()))
    return told


class Language(unittest.TestCase):
    def test_sizes_and_characters(self):
        self.assertGreater(len(sources()), 3)
        for name, text in sources():
            self.assertTrue(name.endswith(".py"), name)
            self.assertEqual([at for at in text if at != "\n" and not " " <= at <= "~"], [], name)
            self.assertLessEqual(len(text.splitlines()), 399, name)
            for at, line in enumerate(text.splitlines(), 1):
                self.assertLessEqual(len(line), 120, f"{name}:{at}")

    def test_functions_are_small(self):
        for name, text in sources():
            for node in ast.walk(ast.parse(text)):
                if isinstance(node, ast.FunctionDef):
                    self.assertLessEqual(node.end_lineno - node.lineno + 1, 40, f"{name}: {node.name}")

    def test_imports(self):
        for name, text in sources():
            for node in ast.walk(ast.parse(text)):
                if isinstance(node, ast.ImportFrom):
                    self.assertEqual(node.level, 0, name)
                    self.assertIn(node.module.split(".")[0], LIBRARY | {"coatrows"}, name)

    def test_statements_and_builtins(self):
        for name, text in sources():
            tree = ast.parse(text)
            for node in ast.walk(tree):
                where = f"{name}:{getattr(node, 'lineno', 0)}"
                self.assertNotIsInstance(node, BARRED, where)
                if isinstance(node, ast.Name) and node.id in ALL_BUILTINS:
                    self.assertIsInstance(node.ctx, ast.Load, where)
                    self.assertIn(node.id, BUILTINS, where)
                if isinstance(node, ast.arg):
                    self.assertNotIn(node.arg, ALL_BUILTINS, where)
                if isinstance(node, ast.Constant):
                    self.assertNotIsInstance(node.value, float, where)
                    self.assertFalse(isinstance(node.value, str) and "%" in node.value, where)


if __name__ == "__main__":
    unittest.main()
