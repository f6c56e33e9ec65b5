"""Tests of the form of the package: the interface, and the rules of form that a test can see."""

import ast
import pathlib
import unittest

PACKAGE = pathlib.Path(__file__).resolve().parent.parent / "lasttouch"

# The functions and classes that each file defines, with the names of their arguments.
INTERFACE = {
    "programs": {"is_program": ["value"], "names": ["program"], "reverse": ["program"], "words": ["program", "longest"]},
    "texts": {"write": ["program"], "read": ["text"]},
}
BARRED = (
    ast.Global, ast.AsyncFunctionDef, ast.AsyncFor, ast.AsyncWith, ast.Await, ast.GeneratorExp, ast.Div, ast.Import,
)


def files():
    return sorted(path for path in PACKAGE.rglob("*") if "__pycache__" not in path.parts)


def trees():
    return [(path, ast.parse(path.read_text(encoding="utf-8"))) for path in files()]


class Interface(unittest.TestCase):
    def test_each_function_stands_in_its_file(self):
        for module, functions in INTERFACE.items():
            tree = ast.parse((PACKAGE / (module + ".py")).read_text(encoding="utf-8"))
            found = {node.name: node.args for node in tree.body if isinstance(node, ast.FunctionDef)}
            for name, wanted in functions.items():
                with self.subTest(name):
                    self.assertEqual([arg.arg for arg in found[name].args], wanted)
                    self.assertEqual(found[name].defaults, [])

    def test_the_init_is_empty(self):
        self.assertEqual((PACKAGE / "__init__.py").read_bytes(), b"")


class Form(unittest.TestCase):
    def test_files(self):
        for path in files():
            with self.subTest(path.name):
                self.assertEqual(path.parent, PACKAGE)
                self.assertRegex(path.name, r"\A[a-z_]+\.py\Z")

    def test_characters_and_sizes(self):
        for path in files():
            lines = path.read_text(encoding="utf-8").split("\n")
            with self.subTest(path.name):
                self.assertLessEqual(len(lines), 400)
                for line in lines:
                    self.assertLessEqual(len(line), 120)
                    self.assertTrue(all(" " <= sign <= "~" for sign in line), line)

    def test_functions_are_short(self):
        for path, tree in trees():
            for node in ast.walk(tree):
                if isinstance(node, ast.FunctionDef):
                    with self.subTest(path.name, function=node.name):
                        self.assertLessEqual(node.end_lineno - node.lineno + 1, 40)

    def test_imports_come_from_the_package(self):
        for path, tree in trees():
            for node in ast.walk(tree):
                if isinstance(node, ast.ImportFrom):
                    with self.subTest(path.name, line=node.lineno):
                        self.assertEqual(node.level, 0)
                        self.assertEqual(node.module.split(".")[0], "lasttouch")

    def test_statements_outside_the_language(self):
        for path, tree in trees():
            for node in ast.walk(tree):
                with self.subTest(path.name, line=getattr(node, "lineno", 0)):
                    self.assertNotIsInstance(node, BARRED)


if __name__ == "__main__":
    unittest.main()
