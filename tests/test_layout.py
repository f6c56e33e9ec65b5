"""Tests of the form of the package: the interface, and the rules of form that a test can see."""

import ast
import builtins
import pathlib
import unittest

PACKAGE = pathlib.Path(__file__).resolve().parent.parent / "lasttouch"

# The functions and classes that each file defines, with the names of their arguments.
INTERFACE = {
    "programs": {"is_program": ["value"], "names": ["program"], "reverse": ["program"], "words": ["program", "longest"]},
    "texts": {"write": ["program"], "read": ["text"]},
    "labels": {name: [first, "labelling", "start"] for name, first in
               [("run", "word"), ("may", "program"), ("must", "program")]},
    "tables": {
        "table": ["program"], "word_table": ["word"], "is_table": ["value"],
        "may_hold": ["table", "labelling", "start"], "must_hold": ["table", "labelling", "start"],
    },
    "equality": {
        "equal": ["one", "other", "sight"], "difference": ["one", "other"], "below": ["one", "other"],
        "idle_before": ["one", "other"], "idle_behind": ["one", "other"], "exchange": ["one", "other"],
    },
    "sets": {
        "is_fitting": ["table", "names"], "fitting": ["table"], "order": ["table", "names"], "is_family": ["value"],
        "family_table": ["family", "starts"],
    },
    "words": {"program_of": ["table"], "grounds": ["words", "word"], "shortened": ["words"]},
    "graphs": {
        "is_graph": ["value"], "graph_table": ["graph"], "straight_ways": ["graph", "name"], "seen_edges": ["graph"],
        "left_out": ["graph"], "greatest_edges": ["graph"], "fewest_edges": ["graph"], "graph_of": ["table"],
    },
    "residuals": {"most_behind": ["one", "other"], "most_before": ["one", "other"]},
    "books": {
        "is_book": ["value"], "book_table": ["book", "name"], "table_within": ["book", "name", "depth"],
        "without_calls": ["book", "name"], "put_in": ["program", "name", "other"],
    },
    "counting": {"classes": ["number"], "families": ["number"], "tables": ["names"]},
    "objects": {},
    "chains": {
        "derivation": ["words", "word"], "fewest": ["table"], "apart": ["table"], "words_both": ["forward", "backward"],
    },
}
# The methods and properties that stand in the body of each class of lasttouch.objects, with the names of
# their arguments behind the first one.
CLASSES = {
    "Flow": {
        "__init__": ["program"], "of_text": ["text"], "__or__": ["other"], "__rshift__": ["other"], "repeated": [],
        "__call__": ["labelling", "start"], "__eq__": ["other"], "__len__": [], "__contains__": ["x"], "program": [], "text": [],
        "table": [],
    },
    "Tracker": {
        "__init__": [], "do": ["name"], "behind": ["name"], "holds": ["labelling", "start"], "done": [], "table": [], "__len__": [],
        "undo": [],
    },
    "Keeper": {"__init__": ["labelling", "start"], "fact": [], "do": ["name"]},
}
BASES = {"Flow": [], "Tracker": [], "Keeper": ["Tracker"]}
BARRED = (
    ast.Global, ast.AsyncFunctionDef, ast.AsyncFor, ast.AsyncWith, ast.Await, ast.GeneratorExp, ast.Div, ast.Import,
)


def files():
    return sorted(path for path in PACKAGE.rglob("*") if "__pycache__" not in path.parts)


def trees():
    return [(path, ast.parse(path.read_text(encoding="utf-8"))) for path in files()]


def defined_names(tree):
    """The names that a file gives to functions, classes and values."""
    found = [node.name for node in tree.body if isinstance(node, (ast.FunctionDef, ast.ClassDef))]
    return found + [node.targets[0].id for node in tree.body if isinstance(node, ast.Assign)]


def local_names(tree):
    """The names of parameters and local variables."""
    found = {node.arg for node in ast.walk(tree) if isinstance(node, ast.arg)}
    for function in ast.walk(tree):
        if isinstance(function, ast.FunctionDef):
            found |= {node.id for node in ast.walk(function)
                      if isinstance(node, ast.Name) and isinstance(node.ctx, ast.Store)}
    return found


class Interface(unittest.TestCase):
    def test_each_function_stands_in_its_file(self):
        for module, functions in INTERFACE.items():
            tree = ast.parse((PACKAGE / (module + ".py")).read_text(encoding="utf-8"))
            found = {node.name: node.args for node in tree.body if isinstance(node, ast.FunctionDef)}
            for name, wanted in functions.items():
                with self.subTest(name):
                    self.assertEqual([arg.arg for arg in found[name].args], wanted)
                    self.assertEqual(found[name].defaults, [])

    def test_each_method_stands_in_its_class(self):
        tree = ast.parse((PACKAGE / "objects.py").read_text(encoding="utf-8"))
        found = {node.name: node for node in tree.body if isinstance(node, ast.ClassDef)}
        for name, wanted in CLASSES.items():
            methods = {node.name: node.args for node in found[name].body if isinstance(node, ast.FunctionDef)}
            self.assertEqual([base.id for base in found[name].bases], BASES[name])
            for method, arguments in wanted.items():
                with self.subTest(name, method=method):
                    self.assertEqual([arg.arg for arg in methods[method].args][1:], arguments)
                    self.assertEqual(methods[method].defaults, [])

    def test_there_are_no_other_files_of_the_interface(self):
        shared = {"__init__", "errors", "bits", "covers"}
        self.assertEqual({path.stem for path in files()}, shared | set(INTERFACE))

    def test_the_init_is_empty(self):
        self.assertEqual((PACKAGE / "__init__.py").read_bytes(), b"")


class Form(unittest.TestCase):
    def test_files(self):
        for path in files():
            with self.subTest(path.name):
                self.assertEqual(path.parent, PACKAGE)
                self.assertRegex(path.name, r"\A[a-z_]+\.py\Z")

    def test_characters_and_sizes(self):
        for path in files():
            lines = path.read_text(encoding="utf-8").split("\n")
            with self.subTest(path.name):
                self.assertLessEqual(len(lines), 400)
                for line in lines:
                    self.assertLessEqual(len(line), 120)
                    self.assertTrue(all(" " <= sign <= "~" for sign in line), line)

    def test_functions_are_short(self):
        for path, tree in trees():
            for node in ast.walk(tree):
                if isinstance(node, ast.FunctionDef):
                    with self.subTest(path.name, function=node.name):
                        self.assertLessEqual(node.end_lineno - node.lineno + 1, 40)

    def test_imports_come_from_the_package(self):
        for path, tree in trees():
            for node in ast.walk(tree):
                if isinstance(node, ast.ImportFrom):
                    with self.subTest(path.name, line=node.lineno):
                        self.assertEqual(node.level, 0)
                        self.assertEqual(node.module.split(".")[0], "lasttouch")

    def test_imports_name_the_file_that_defines(self):
        defined = {path.stem: defined_names(tree) for path, tree in trees()}
        for path, tree in trees():
            for node in ast.walk(tree):
                if isinstance(node, ast.ImportFrom):
                    for alias in node.names:
                        with self.subTest(path.name, name=alias.name):
                            self.assertIn(alias.name, defined[node.module.split(".")[1]])

    def test_no_files_import_from_each_other(self):
        imports = {path.stem: {node.module.split(".")[1] for node in ast.walk(tree) if isinstance(node, ast.ImportFrom)}
                   for path, tree in trees()}
        while imports:
            free = [name for name, others in imports.items() if not others & set(imports)]
            self.assertTrue(free, imports)
            for name in free:
                del imports[name]

    def test_names_are_given_once(self):
        for path, tree in trees():
            imported = {alias.name for node in tree.body if isinstance(node, ast.ImportFrom) for alias in node.names}
            classes = {node.name for node in tree.body if isinstance(node, ast.ClassDef)}
            found = [alias.name for node in tree.body if isinstance(node, ast.ImportFrom) for alias in node.names]
            with self.subTest(path.name):
                self.assertEqual(len(set(found + defined_names(tree))), len(found + defined_names(tree)))
                self.assertFalse(local_names(tree) & (imported | classes))
                self.assertFalse((local_names(tree) | set(defined_names(tree))) & (set(dir(builtins)) - {"_"}))

    def test_imports_are_used(self):
        for path, tree in trees():
            imported = [alias.name for node in tree.body if isinstance(node, ast.ImportFrom) for alias in node.names]
            read = {node.id for node in ast.walk(tree) if isinstance(node, ast.Name)}
            with self.subTest(path.name):
                self.assertLessEqual(set(imported), read)

    def test_statements_outside_the_language(self):
        for path, tree in trees():
            for node in ast.walk(tree):
                with self.subTest(path.name, line=getattr(node, "lineno", 0)):
                    self.assertNotIsInstance(node, BARRED)


if __name__ == "__main__":
    unittest.main()
