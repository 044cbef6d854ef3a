"""The interface, and those rules of the language that can be told mechanically."""

import ast
import importlib
import inspect
import pathlib
import unittest
import warnings

PACKAGE = pathlib.Path(__file__).resolve().parent.parent / "struckpieces"

INTERFACE = {
    "books": {"Book": ["pieces"], "letters": ["book"]},
    "logs": {
        "strikes": ["book", "log"],
        "struck": ["book", "log", "strike"],
        "left_by": ["book", "log", "striking"],
        "is_striking": ["book", "log", "thing"],
        "put_in": ["book", "log", "place", "number"],
    },
}

BUILTINS = (
    "len range enumerate zip min max sum abs sorted reversed int str bool list tuple dict set isinstance ord repr "
    "any all divmod map iter next getattr hasattr setattr type ValueError TypeError KeyError IndexError LookupError "
    "ZeroDivisionError StopIteration RuntimeError NotImplementedError NotImplemented"
).split()

LIBRARY = {
    "heapq": ["heappush", "heappop", "heapify", "heapreplace", "heappushpop"],
    "math": ["gcd", "lcm", "isqrt", "comb", "perm", "factorial"],
    "itertools": [
        "product", "combinations", "permutations", "chain", "accumulate", "pairwise", "islice", "zip_longest",
    ],
    "collections": ["defaultdict", "deque"],
}

METHODS = ("__init__", "__eq__", "__repr__", "__str__", "__len__")

BARRED = (ast.AsyncFunctionDef, ast.AsyncFor, ast.AsyncWith, ast.Await, ast.Div)


def files():
    return sorted(path for path in PACKAGE.rglob("*") if path.is_file() and "__pycache__" not in path.parts)


def trees():
    for path in files():
        yield path.name, ast.parse(path.read_text(encoding="utf-8"))


def first_line(node):
    return min([node.lineno] + [above.lineno for above in getattr(node, "decorator_list", [])])


class TestInterface(unittest.TestCase):

    def test_each_name_is_defined_in_its_file(self):
        for name, wanted in INTERFACE.items():
            module = importlib.import_module("struckpieces." + name)
            for called, arguments in wanted.items():
                thing = getattr(module, called)
                self.assertEqual(thing.__module__, "struckpieces." + name)
                self.assertEqual(list(inspect.signature(thing).parameters), arguments)


class TestLanguage(unittest.TestCase):

    def test_files(self):
        self.assertIn(PACKAGE / "__init__.py", files())
        for path in files():
            self.assertRegex(path.name, r"\A[a-z_]+\.py\Z")

    def test_characters_and_sizes(self):
        for path in files():
            text = path.read_text(encoding="utf-8")
            self.assertTrue(all(sign == "\n" or " " <= sign <= "~" for sign in text), path.name)
            lines = text.split("\n")
            self.assertLessEqual(len(lines), 399, path.name)
            self.assertLessEqual(max(len(line) for line in lines), 120, path.name)

    def test_no_warnings(self):
        with warnings.catch_warnings():
            warnings.simplefilter("error")
            for path in files():
                compile(path.read_text(encoding="utf-8"), path.name, "exec")

    def test_functions_have_at_most_forty_lines(self):
        for name, tree in trees():
            for node in ast.walk(tree):
                if isinstance(node, ast.FunctionDef):
                    self.assertLessEqual(node.end_lineno - first_line(node) + 1, 40, (name, node.name))

    def test_nothing_barred(self):
        for name, tree in trees():
            for node in ast.walk(tree):
                self.assertNotIsInstance(node, BARRED, (name, getattr(node, "lineno", 0)))
                if isinstance(node, ast.Constant):
                    self.assertNotIsInstance(node.value, (float, complex), name)
                if isinstance(node, ast.FunctionDef) and node.name.startswith("__"):
                    self.assertIn(node.name, METHODS, name)

    def test_module_level(self):
        kinds = (ast.Import, ast.ImportFrom, ast.FunctionDef, ast.ClassDef, ast.Assign)
        for name, tree in trees():
            for at, node in enumerate(tree.body):
                docstring = at == 0 and isinstance(node, ast.Expr) and isinstance(node.value, ast.Constant)
                self.assertTrue(docstring or isinstance(node, kinds), (name, node.lineno))

    def test_imports(self):
        for name, tree in trees():
            for node in ast.walk(tree):
                self.assertNotIsInstance(node, ast.Import, name)
                if isinstance(node, ast.ImportFrom):
                    self.assertIn(node, tree.body, (name, node.lineno))
                    self.assert_import(name, node)

    def assert_import(self, name, node):
        self.assertEqual(node.level, 0, name)
        for alias in node.names:
            if node.module in LIBRARY:
                self.assertIn(alias.name, LIBRARY[node.module], name)
                continue
            self.assertTrue(node.module.startswith("struckpieces."), (name, node.module))
            home = ast.parse((PACKAGE / (node.module.partition(".")[2] + ".py")).read_text(encoding="utf-8"))
            bound = [item.name for item in home.body if isinstance(item, (ast.FunctionDef, ast.ClassDef))]
            bound += [item.targets[0].id for item in home.body if isinstance(item, ast.Assign)]
            self.assertIn(alias.name, bound, (name, node.module))

    def test_builtins(self):
        every = dir(__import__("builtins"))
        for name, tree in trees():
            for node in ast.walk(tree):
                if isinstance(node, ast.Name) and node.id in every:
                    self.assertIn(node.id, BUILTINS, (name, node.lineno))
                    self.assertIsInstance(node.ctx, ast.Load, (name, node.lineno))
                if isinstance(node, ast.arg):
                    self.assertNotIn(node.arg, every, (name, node.lineno))
