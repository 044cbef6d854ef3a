"""The interface, and those rules of the language that can be told mechanically."""

import ast
import importlib
import inspect
import pathlib
import unittest
import warnings

PACKAGE = pathlib.Path(__file__).resolve().parent.parent / "struckpieces"

INTERFACE = {
    "books": {"Book": ["pieces"], "letters": ["book"]},
    "logs": {
        "strikes": ["book", "log"],
        "struck": ["book", "log", "strike"],
        "left_by": ["book", "log", "striking"],
        "is_striking": ["book", "log", "thing"],
        "put_in": ["book", "log", "place", "number"],
    },
    "tables": {
        "is_idle": ["book", "log"],
        "idle_striking": ["book", "log"],
        "comes_to": ["book", "log", "other"],
        "idle_stretches": ["book", "log"],
        "ends": ["book", "log", "most"],
        "least_left": ["book", "log"],
        "most_struck": ["book", "log"],
    },
    "prices": {
        "cheapest": ["book", "log", "prices"],
        "dearest": ["book", "log", "prices"],
        "many_strikes": ["book", "log"],
    },
    "free": {
        "is_enough": ["book"],
        "is_endless": ["book", "thing"],
        "free_texts": ["book"],
        "longest_free": ["book"],
        "free_count": ["book", "many"],
        "endless": ["book"],
    },
    "weights": {
        "is_fitting": ["book", "thing"],
        "is_shares": ["book", "log", "thing"],
        "is_bound": ["book", "letter", "number", "thing"],
        "weight": ["book", "weights", "text"],
        "barring": ["book", "log"],
        "shares": ["book", "log"],
        "least_weight": ["book", "letter"],
        "bound": ["book", "letter"],
    },
    "machines": {
        "Machine": ["signs", "rows", "lets"],
        "reached": ["machine", "text"],
        "lets_by": ["machine", "text"],
        "is_below": ["machine", "other"],
        "least": ["machine"],
        "either": ["machine", "other"],
        "both": ["machine", "other"],
        "turned": ["machine"],
        "apart": ["machine", "other"],
    },
    "refuters": {
        "family": ["book"],
        "refutal": ["book", "machine"],
        "refuted": ["book", "start", "step", "lets", "most"],
        "is_family": ["book", "thing"],
        "is_refutal": ["book", "machine", "thing"],
    },
    "finding": {
        "least_machine": ["book"],
        "gap": ["book", "machine"],
        "stuck": ["book", "machine"],
        "is_right": ["book", "thing"],
    },
    "tongues": {
        "coming": ["book", "machine"],
        "left_of": ["book", "machine"],
        "closed_by": ["book", "texts"],
        "least_texts": ["book", "machine"],
    },
    "bases": {
        "needless": ["book"],
        "base": ["book"],
        "parting": ["book", "other"],
        "is_held": ["book", "other"],
    },
    "counts": {
        "count": ["machine", "many"],
        "index_of": ["machine", "text"],
        "idle_count": ["book", "many"],
        "text_at": ["machine", "many", "index"],
    },
    "rests": {"one_rest": ["book"], "meetings": ["book"]},
    "goings": {
        "dead_letters": ["book"],
        "going_on": ["book", "log"],
        "between": ["book", "one", "other"],
        "fewest_more": ["book", "log"],
    },
    "piles": {
        "hurried": ["book", "log"],
        "hurried_striking": ["book", "log"],
        "lost": ["book", "log"],
        "unsafe_log": ["book"],
        "is_safe": ["book"],
    },
    "harmless": {
        "is_harmless": ["book", "log", "strike"],
        "harm": ["book", "log", "strike"],
        "harmless_strikes": ["book", "log"],
        "kept_logs": ["book"],
        "cleaned": ["book", "log"],
    },
    "store": {
        "Store": ["book"],
        "relived": ["book", "text", "values"],
        "restored": ["book", "text", "values"],
    },
    "live": {"Live": ["book"]},
}

METHODS_OF = {
    ("store", "Store"): {
        "write": ["letter", "value"], "clean": [], "written": [], "reader": [], "more": [], "keep": ["on"],
        "close": ["reader"], "undo": [], "kept": [], "seen": ["reader"], "log": [], "journal": [], "checkpoint": [],
        "value": ["number"], "is_idle_now": [], "copy": [],
    },
    ("live", "Live"): {
        "put": ["place", "text"], "cut": ["place", "many"], "turn": ["place", "text"], "take_back": [], "whole": [],
        "idle_now": [], "idle_part": ["begin", "end"], "least_now": [], "looked": [],
    },
}

BUILTINS = (
    "len range enumerate zip min max sum abs sorted reversed int str bool list tuple dict set isinstance ord repr "
    "any all divmod map iter next getattr hasattr setattr type ValueError TypeError KeyError IndexError LookupError "
    "ZeroDivisionError StopIteration RuntimeError NotImplementedError NotImplemented"
).split()

LIBRARY = {
    "heapq": ["heappush", "heappop", "heapify", "heapreplace", "heappushpop"],
    "math": ["gcd", "lcm", "isqrt", "comb", "perm", "factorial"],
    "itertools": [
        "product", "combinations", "permutations", "chain", "accumulate", "pairwise", "islice", "zip_longest",
    ],
    "collections": ["defaultdict", "deque"],
}

METHODS = ("__init__", "__eq__", "__repr__", "__str__", "__len__")

VALUE_METHODS = (
    "append clear copy count endswith extend find get index insert isalnum isalpha isdigit islower isspace isupper "
    "items join keys ljust lower lstrip partition pop remove replace reverse rfind rjust rpartition rsplit rstrip "
    "setdefault split splitlines startswith strip update upper values zfill bit_length"
).split()

# No names of anything.
BARRED_NAMES = (
    "register mro elements open input law version_info with_traceback add_note attrgetter breakpoint builtins compile "
    "copyright credits delattr dir eval exec exit gc globals help id importlib license locals methodcaller os quit "
    "super vars sys format format_map"
).split()

# Not even within strings.
BARRED_WORDS = (
    "type typing typing_extensions enum Enum IntEnum StrEnum Flag IntFlag Generic Protocol ABC ABCMeta namedtuple "
    "NamedTuple TypedDict TYPE_CHECKING abstractmethod"
).split()

# What may take a list only, where a class can be compared.
LIST_TAKERS = ("any", "all", "sum", "min", "max", "sorted")

BARRED = (ast.AsyncFunctionDef, ast.AsyncFor, ast.AsyncWith, ast.Await, ast.Div)


def files():
    return sorted(path for path in PACKAGE.rglob("*") if path.is_file() and "__pycache__" not in path.parts)


def trees():
    for path in files():
        yield path.name, ast.parse(path.read_text(encoding="utf-8"))


def first_line(node):
    return min([node.lineno] + [above.lineno for above in getattr(node, "decorator_list", [])])


class TestInterface(unittest.TestCase):

    def test_each_name_is_defined_in_its_file(self):
        for name, wanted in INTERFACE.items():
            module = importlib.import_module("struckpieces." + name)
            for called, arguments in wanted.items():
                thing = getattr(module, called)
                self.assertEqual(thing.__module__, "struckpieces." + name)
                self.assertEqual(list(inspect.signature(thing).parameters), arguments)

    def test_each_method_is_defined_in_its_class(self):
        for (name, called), methods in METHODS_OF.items():
            made = getattr(importlib.import_module("struckpieces." + name), called)
            for method, arguments in methods.items():
                self.assertIn(method, vars(made))
                self.assertEqual(list(inspect.signature(vars(made)[method]).parameters), ["self"] + arguments)


class TestLanguage(unittest.TestCase):

    def test_files(self):
        self.assertIn(PACKAGE / "__init__.py", files())
        for path in files():
            self.assertRegex(path.name, r"\A[a-z_]+\.py\Z")

    def test_characters_and_sizes(self):
        for path in files():
            text = path.read_text(encoding="utf-8")
            self.assertTrue(all(sign == "\n" or " " <= sign <= "~" for sign in text), path.name)
            lines = text.split("\n")
            self.assertLessEqual(len(lines), 399, path.name)
            self.assertLessEqual(max(len(line) for line in lines), 120, path.name)

    def test_no_warnings(self):
        with warnings.catch_warnings():
            warnings.simplefilter("error")
            for path in files():
                compile(path.read_text(encoding="utf-8"), path.name, "exec")

    def test_functions_have_at_most_forty_lines(self):
        for name, tree in trees():
            for node in ast.walk(tree):
                if isinstance(node, ast.FunctionDef):
                    self.assertLessEqual(node.end_lineno - first_line(node) + 1, 40, (name, node.name))

    def test_nothing_barred(self):
        for name, tree in trees():
            for node in ast.walk(tree):
                self.assertNotIsInstance(node, BARRED, (name, getattr(node, "lineno", 0)))
                if isinstance(node, ast.Constant):
                    self.assertNotIsInstance(node.value, (float, complex), name)
                if isinstance(node, ast.FunctionDef) and node.name.startswith("__"):
                    self.assertIn(node.name, METHODS, name)

    def test_module_level(self):
        kinds = (ast.Import, ast.ImportFrom, ast.FunctionDef, ast.ClassDef, ast.Assign)
        for name, tree in trees():
            for at, node in enumerate(tree.body):
                docstring = at == 0 and isinstance(node, ast.Expr) and isinstance(node.value, ast.Constant)
                self.assertTrue(docstring or isinstance(node, kinds), (name, node.lineno))

    def test_imports(self):
        for name, tree in trees():
            for node in ast.walk(tree):
                self.assertNotIsInstance(node, ast.Import, name)
                if isinstance(node, ast.ImportFrom):
                    self.assertIn(node, tree.body, (name, node.lineno))
                    self.assert_import(name, node)

    def assert_import(self, name, node):
        self.assertEqual(node.level, 0, name)
        for alias in node.names:
            if node.module in LIBRARY:
                self.assertIn(alias.name, LIBRARY[node.module], name)
                continue
            self.assertTrue(node.module.startswith("struckpieces."), (name, node.module))
            home = ast.parse((PACKAGE / (node.module.partition(".")[2] + ".py")).read_text(encoding="utf-8"))
            bound = [item.name for item in home.body if isinstance(item, (ast.FunctionDef, ast.ClassDef))]
            bound += [item.targets[0].id for item in home.body if isinstance(item, ast.Assign)]
            self.assertIn(alias.name, bound, (name, node.module))

    def test_builtins(self):
        every = dir(__import__("builtins"))
        for name, tree in trees():
            for node in ast.walk(tree):
                if isinstance(node, ast.Name) and node.id in every:
                    self.assertIn(node.id, BUILTINS, (name, node.lineno))
                    self.assertIsInstance(node.ctx, ast.Load, (name, node.lineno))
                if isinstance(node, ast.arg):
                    self.assertNotIn(node.arg, every, (name, node.lineno))

    def test_no_name_means_two_things(self):
        for name, tree in trees():
            outer = [node.name for node in tree.body if isinstance(node, ast.ClassDef)]
            for node in tree.body:
                if isinstance(node, ast.ImportFrom):
                    outer += [alias.name for alias in node.names]
            top = outer + [node.name for node in tree.body if isinstance(node, ast.FunctionDef)]
            top += [node.targets[0].id for node in tree.body if isinstance(node, ast.Assign)]
            self.assertEqual(len(top), len(set(top)), name)
            for node in ast.walk(tree):
                if isinstance(node, ast.arg):
                    self.assertNotIn(node.arg, top, (name, node.lineno))
                if isinstance(node, ast.Name) and isinstance(node.ctx, ast.Store) and node not in self.assigned(tree):
                    self.assertNotIn(node.id, top, (name, node.lineno))

    def assigned(self, tree):
        return [node.targets[0] for node in tree.body if isinstance(node, ast.Assign)]

    def test_names_are_read_and_imports_are_used(self):
        for name, tree in trees():
            read = [node.id for node in ast.walk(tree) if isinstance(node, ast.Name) and isinstance(node.ctx, ast.Load)]
            self.assertNotIn("_", read, name)
            for node in tree.body:
                if isinstance(node, ast.ImportFrom):
                    for alias in node.names:
                        self.assertIn(alias.name, read, name)

    def test_methods(self):
        classes = [node for _, tree in trees() for node in ast.walk(tree) if isinstance(node, ast.ClassDef)]
        methods = {item.name for node in classes for item in node.body if isinstance(item, ast.FunctionDef)}
        attributes = {
            node.attr for _, tree in trees() for node in ast.walk(tree)
            if isinstance(node, ast.Attribute) and isinstance(node.ctx, ast.Store)
        }
        self.assertEqual(methods & attributes, set())
        values = set(dir(str)) | set(dir(int)) | set(dir(list)) | set(dir(dict)) | set(dir(set)) | set(dir(bytes))
        # Methods may be called like those of the rule's first list.
        self.assertEqual((methods - set(VALUE_METHODS) | attributes) & values - set(METHODS), set())
        for name, tree in trees():
            for node in ast.walk(tree):
                if isinstance(node, ast.Attribute):
                    self.assertIn(node.attr, list(methods | attributes) + VALUE_METHODS, (name, node.lineno))
                if isinstance(node, ast.Call) and isinstance(node.func, ast.Attribute):
                    self.assertEqual(node.keywords, [], (name, node.lineno))

    def test_barred_names_and_words(self):
        for path in files():
            tree = ast.parse(path.read_text(encoding="utf-8"))
            for node in ast.walk(tree):
                for field in ("id", "arg", "attr", "name"):
                    word = getattr(node, field, None)
                    self.assertNotIn(word, BARRED_NAMES + BARRED_WORDS, (path.name, getattr(node, "lineno", 0)))
                    self.assertFalse(isinstance(word, str) and word.startswith("__") and word not in METHODS, word)
                if isinstance(node, ast.Constant) and isinstance(node.value, str):
                    self.assertNotIn("%", node.value, path.name)
            self.assertNotIn("_wall", path.read_text(encoding="utf-8"))

    def test_forms(self):
        for name, tree in trees():
            for node in ast.walk(tree):
                where = (name, getattr(node, "lineno", 0))
                if isinstance(node, ast.Compare):
                    for sign, right in zip(node.ops, node.comparators):
                        if isinstance(sign, (ast.Is, ast.IsNot)):
                            self.assertIn(getattr(right, "value", 0), (None, True, False), where)
                self.assertNotIsInstance(node, (ast.GeneratorExp, ast.Yield, ast.YieldFrom, ast.Global, ast.Starred), where)
                self.assertNotIsInstance(node, (ast.Match, ast.With, ast.NamedExpr, ast.Nonlocal, ast.AnnAssign), where)
                if isinstance(node, ast.ExceptHandler):
                    for caught in getattr(node.type, "elts", [node.type]):
                        self.assertNotIn(getattr(caught, "id", "all"), ("all", "Exception") + tuple(BUILTINS), where)
                if isinstance(node, ast.Call) and isinstance(node.func, ast.Name):
                    self.assert_call(node, where)

    def assert_call(self, node, where):
        keywords = [keyword.arg for keyword in node.keywords]
        if node.func.id in BUILTINS:
            self.assertLessEqual(set(keywords), {"key", "reverse", "default", "start"}, where)
        if node.func.id == "set":
            self.assertEqual(len(node.args), 1, where)
        if node.func.id in LIST_TAKERS:
            self.assertTrue(node.args, where)

    def test_loops_change_nothing_that_they_go_over(self):
        for name, tree in trees():
            for node in ast.walk(tree):
                if isinstance(node, ast.For):
                    over = {item.id for item in ast.walk(node.iter) if isinstance(item, ast.Name)}
                    self.assertEqual(self.changed(node.body) & over, set(), (name, node.lineno))

    def changed(self, body):
        """The names of what a body changes in place, or gives another value."""
        found = set()
        for top in body:
            for node in ast.walk(top):
                if isinstance(node, ast.Call) and isinstance(node.func, ast.Attribute):
                    if node.func.attr in ("append", "pop", "extend", "insert", "remove", "clear", "update", "setdefault"):
                        found.add(getattr(node.func.value, "id", None))
                if isinstance(node, (ast.Assign, ast.AugAssign)):
                    for target in node.targets if isinstance(node, ast.Assign) else [node.target]:
                        while isinstance(target, ast.Subscript):
                            target = target.value
                        found.add(getattr(target, "id", None))
        return found - {None}
