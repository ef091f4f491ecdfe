"""Checks of the package's files against LANGUAGE.md: those rules that are plain to see in a file."""

import ast
import builtins
import pathlib
import unittest
import warnings

PACKAGE = pathlib.Path(__file__).resolve().parent.parent / "piecefacts"
FILES = sorted(path for path in PACKAGE.iterdir() if path.name != "__pycache__")
BUILTINS = set("""len range enumerate zip min max sum abs sorted reversed int str bool bytes list tuple dict set frozenset
isinstance ord repr any all divmod iter next Exception ValueError TypeError KeyError IndexError LookupError
ZeroDivisionError ArithmeticError OverflowError RuntimeError NotImplementedError AttributeError StopIteration
NotImplemented property staticmethod classmethod super""".split())
LIBRARY = {"heapq", "math", "itertools", "__future__"}


class LanguageTest(unittest.TestCase):
    def each_node(self, kinds):
        for path in FILES:
            for node in ast.walk(ast.parse(path.read_text())):
                if isinstance(node, kinds):
                    yield path.name, node

    def test_files(self):
        for path in FILES:
            self.assertRegex(path.name, r"^[a-z_][a-z0-9_]*\.py$")
            text = path.read_text(encoding="ascii")
            self.assertRegex(text, r"^[ -~\n]*$")
            lines = text.split("\n")
            self.assertLessEqual(len(lines), 400, path)
            self.assertLessEqual(max(map(len, lines)), 120, path)
            with warnings.catch_warnings():
                warnings.simplefilter("error")
                compile(text, path.name, "exec")

    def test_functions_are_short(self):
        for name, node in self.each_node(ast.FunctionDef):
            self.assertLessEqual(node.end_lineno - node.lineno + 1, 40, (name, node.name))

    def test_imports(self):
        for name, node in self.each_node((ast.Import, ast.ImportFrom)):
            self.assertIsInstance(node, ast.ImportFrom, name)
            self.assertTrue(node.module.startswith("piecefacts.") or node.module in LIBRARY, (name, node.module))
            for alias in node.names:
                self.assertNotEqual(alias.name, "*")

    def test_imports_name_the_file_that_defines_the_name(self):
        for name, node in self.each_node(ast.ImportFrom):
            if node.module not in LIBRARY:
                text = (PACKAGE / (node.module.split(".")[1] + ".py")).read_text()
                defined = [getattr(part, "name", None) for part in ast.parse(text).body]
                defined += [part.targets[0].id for part in ast.parse(text).body if isinstance(part, ast.Assign)]
                for alias in node.names:
                    self.assertIn(alias.name, defined, name)

    def test_builtins(self):
        for name, node in self.each_node(ast.Name):
            if hasattr(builtins, node.id):
                self.assertIn(node.id, BUILTINS, (name, node.lineno))
                self.assertIsInstance(node.ctx, ast.Load, (name, node.lineno))

    def test_no_floats_and_no_generators_beside_own_equality(self):
        for name, node in self.each_node((ast.Constant, ast.Div, ast.GeneratorExp)):
            self.assertIsInstance(node, ast.Constant, name)
            self.assertNotIsInstance(node.value, float, name)


if __name__ == "__main__":
    unittest.main()
