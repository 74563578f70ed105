"""What of ../shared/LANGUAGE.md can be seen at a glance, for each file of the package."""

import ast
import unittest
from pathlib import Path

PACKAGE = Path(__file__).resolve().parent.parent / "stepsound"
LIBRARY = {"heapq", "math", "itertools"}
BUILTINS = set(
    "len range enumerate zip min max sum abs sorted reversed int str bool list tuple dict set isinstance ord repr any"
    " all divmod iter next map ValueError OverflowError LookupError NotImplemented property".split()
)


def files():
    return sorted(path for path in PACKAGE.rglob("*") if "__pycache__" not in path.parts)


def trees():
    return [(path.name, ast.parse(path.read_text("utf-8"))) for path in files()]


class LanguageTest(unittest.TestCase):
    def test_files(self):
        for path in files():
            self.assertRegex(path.name, r"^[a-z_]+\.py$")
            lines = path.read_text("ascii").split("\n")
            self.assertLess(len(lines), 400, path.name)
            for line in lines:
                self.assertLessEqual(len(line), 120, path.name)
                self.assertTrue(line.isprintable(), path.name)

    def test_functions_are_short(self):
        for name, tree in trees():
            for node in ast.walk(tree):
                if isinstance(node, ast.FunctionDef):
                    self.assertLessEqual(node.end_lineno - node.lineno + 1, 40, (name, node.name))
                    self.assertLessEqual({ast.unparse(one) for one in node.decorator_list}, {"property"}, node.name)

    def test_imports(self):
        for name, tree in trees():
            for node in ast.walk(tree):
                self.assertNotIsInstance(node, ast.Import, name)
                if isinstance(node, ast.ImportFrom):
                    self.assertIn(node, tree.body, name)
                    self.assertTrue(node.module in LIBRARY or node.module.startswith("stepsound."), name)
                    self.assertEqual(node.level, 0, name)

    def test_properties_are_of_classes(self):
        for name, tree in trees():
            functions = [node for node in tree.body if isinstance(node, ast.FunctionDef)]
            self.assertEqual([one.name for one in functions if one.decorator_list], [], name)

    def test_no_generators_beside_classes_that_compare(self):
        for name, tree in trees():
            for node in ast.walk(tree):
                if isinstance(node, ast.Call) and ast.unparse(node.func) in ("any", "all", "min", "max", "sum", "sorted"):
                    self.assertFalse([one for one in node.args if isinstance(one, ast.GeneratorExp)], name)

    def test_builtins(self):
        for name, tree in trees():
            nodes = list(ast.walk(tree))
            names = [node for node in nodes if isinstance(node, ast.Name)]
            read = {node.id for node in names if isinstance(node.ctx, ast.Load)}
            bound = {node.id for node in names if isinstance(node.ctx, ast.Store)}
            bound |= {node.arg for node in nodes if isinstance(node, ast.arg)}
            bound |= {node.name for node in nodes if isinstance(node, (ast.FunctionDef, ast.ClassDef))}
            bound |= {one.name for node in nodes if isinstance(node, ast.ImportFrom) for one in node.names}
            self.assertEqual(read - bound - BUILTINS, set(), name)
            self.assertEqual(bound & BUILTINS, set(), name)

    def test_no_floats_and_no_percent_signs(self):
        for name, tree in trees():
            for node in ast.walk(tree):
                self.assertNotIsInstance(node, (ast.Global, ast.AsyncFunctionDef, ast.Div), name)
                if isinstance(node, ast.Constant):
                    self.assertNotIsInstance(node.value, (float, complex), name)
                    if isinstance(node.value, str):
                        self.assertNotIn("%", node.value, name)


if __name__ == "__main__":
    unittest.main()
