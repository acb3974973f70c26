"""Rules of the program's language that can be seen in the text of its files."""

import ast
import builtins
import pathlib
import re
import tokenize
import unittest
import warnings

PACKAGE = pathlib.Path(__file__).resolve().parent.parent / "handedtext"

LIBRARY = {
    "heapq": {"heappush", "heappop", "heapify", "heapreplace", "heappushpop"},
    "math": {"gcd", "lcm", "isqrt", "comb", "perm", "factorial"},
    "itertools": {"product", "combinations", "permutations"},
}

BUILTINS = set(
    "len range enumerate zip min max sum abs sorted reversed int str bool list tuple dict set frozenset isinstance ord"
    " repr any all divmod map iter next super property staticmethod classmethod object Exception ValueError TypeError"
    " KeyError IndexError LookupError ZeroDivisionError ArithmeticError OverflowError RuntimeError NotImplementedError"
    " AttributeError StopIteration NotImplemented".split())

METHODS = set(
    "append clear copy count endswith extend find get index insert isalnum isalpha isdigit islower isspace isupper"
    " items join keys ljust lower lstrip partition pop remove replace reverse rfind rjust rpartition rsplit rstrip"
    " setdefault split splitlines startswith strip update upper values zfill bit_length title capitalize swapcase"
    " casefold center expandtabs removeprefix removesuffix rindex isascii isdecimal isnumeric istitle isidentifier"
    " isprintable add discard sort __init__".split())

OPERATORS = {
    "__eq__", "__neg__", "__or__", "__sub__", "__contains__", "__getitem__", "__len__",
}

DOUBLE_UNDERSCORES = OPERATORS | {"__init__", "__iter__", "__call__", "__enter__", "__exit__"}

BARRED_NODES = (
    ast.Import, ast.Global, ast.AsyncFunctionDef, ast.AsyncFor, ast.AsyncWith, ast.Await, ast.Div, ast.MatMult,
)

BARRED_NAMES = set(
    "type typing typing_extensions enum Enum IntEnum StrEnum Flag IntFlag Generic Protocol ABC ABCMeta namedtuple"
    " NamedTuple TypedDict TYPE_CHECKING abstractmethod register mro elements open input law version_info"
    " with_traceback add_note".split())


def files():
    """Return the files of the package."""
    return sorted(path for path in PACKAGE.rglob("*.py"))


def trees():
    """Return the path and the syntax tree of each file."""
    return [(path, ast.parse(path.read_text("ascii"))) for path in files()]


def bound_at_top(tree):
    """Return the names that a module binds, each as often as it does."""
    names = []
    for node in tree.body:
        if isinstance(node, ast.ImportFrom):
            names.extend(alias.asname or alias.name for alias in node.names)
        elif isinstance(node, (ast.FunctionDef, ast.ClassDef)):
            names.append(node.name)
        elif isinstance(node, ast.Assign):
            names.extend(target.id for target in node.targets)
    return names


class LanguageTest(unittest.TestCase):

    def test_files(self):
        for path in PACKAGE.rglob("*"):
            if "__pycache__" not in path.parts:
                self.assertRegex(path.name, r"^[a-z_][a-z0-9_]*(\.py)?$")
        self.assertTrue((PACKAGE / "__init__.py").is_file())

    def test_characters_and_sizes(self):
        for path in files():
            text = path.read_text("ascii")
            self.assertIsNone(re.search(r"[^ -~\n]", text), path)
            self.assertLessEqual(len(text.split("\n")), 399, path)
            self.assertLessEqual(max(len(line) for line in text.split("\n")), 120, path)
            with warnings.catch_warnings():
                warnings.simplefilter("error")
                compile(text, str(path), "exec")

    def test_words(self):
        for path, tree in trees():
            for node in ast.walk(tree):
                if isinstance(node, ast.FunctionDef):
                    self.assertLessEqual(node.end_lineno - node.lineno + 1, 40, (path, node.name))
                if isinstance(node, ast.Constant):
                    self.assertNotIsInstance(node.value, (float, complex), path)
                    self.assertNotIn("%", str(node.value), path)
            with path.open("rb") as file:
                words = {token.string for token in tokenize.tokenize(file.readline) if token.type == tokenize.NAME}
            self.assertEqual(words & BARRED_NAMES, set(), path)
            self.assertNotRegex(path.read_text("ascii"), "dataclass|overload|contextmanager|_wall", path)

    def test_module_level(self):
        for path, tree in trees():
            self.assertIsNotNone(ast.get_docstring(tree), path)
            for node in tree.body[1:]:
                self.assertIsInstance(node, (ast.ImportFrom, ast.FunctionDef, ast.ClassDef, ast.Assign), path)
                if isinstance(node, ast.Assign):
                    self.assertEqual([ast.Name], [target.__class__ for target in node.targets], path)
            names = bound_at_top(tree)
            self.assertEqual(sorted(set(names)), sorted(names), path)

    def test_imports(self):
        defined = {path.stem: bound_at_top(tree) for path, tree in trees()}
        for path, tree in trees():
            for node in ast.walk(tree):
                if isinstance(node, ast.ImportFrom):
                    self.assertIn(node, tree.body, path)
                    self.assertEqual(node.level, 0, path)
                    names = [alias.name for alias in node.names]
                    if node.module in LIBRARY:
                        self.assertLessEqual(set(names), LIBRARY[node.module], path)
                        continue
                    package, _, module = node.module.partition(".")
                    self.assertEqual(package, "handedtext", path)
                    self.assertLessEqual(set(names), set(defined[module]), path)

    def test_names_from_the_library_are_called_on_the_spot(self):
        for path, tree in trees():
            told = set()
            for node in tree.body:
                if isinstance(node, ast.ImportFrom) and node.module in LIBRARY:
                    told.update(alias.name for alias in node.names)
            calls = [node for node in ast.walk(tree) if isinstance(node, ast.Call)]
            heads = [call.func for call in calls if not call.keywords]
            for node in ast.walk(tree):
                if isinstance(node, ast.Name) and node.id in told:
                    self.assertIn(node, heads, path)
            for call in calls:
                if isinstance(call.func, ast.Name) and call.func.id in told:
                    self.assertFalse([thing for thing in call.args if isinstance(thing, ast.Starred)], path)

    def test_no_local_name_is_that_of_an_import_or_a_class(self):
        for path, tree in trees():
            barred = set()
            for node in tree.body:
                if isinstance(node, ast.ImportFrom):
                    barred.update(alias.name for alias in node.names)
                if isinstance(node, ast.ClassDef):
                    barred.add(node.name)
            for node in ast.walk(tree):
                if isinstance(node, ast.arg):
                    self.assertNotIn(node.arg, barred, path)
                if isinstance(node, ast.Name) and isinstance(node.ctx, ast.Store):
                    self.assertNotIn(node.id, barred, path)

    def test_no_generators_beside_classes_that_compare(self):
        # Some rules bar them only beside classes with `__eq__`, which the package is going to have.
        for path, tree in trees():
            for node in ast.walk(tree):
                self.assertNotIsInstance(node, ast.GeneratorExp, path)

    def test_no_file_imports_from_itself_through_others(self):
        imports = {
            "handedtext." + path.stem: {node.module for node in tree.body if isinstance(node, ast.ImportFrom)}
            for path, tree in trees()
        }
        while imports:
            free = [name for name in imports if not imports[name] & set(imports)]
            self.assertTrue(free, imports)
            for name in free:
                del imports[name]

    def test_statements_and_signs(self):
        for path, tree in trees():
            for node in ast.walk(tree):
                self.assertNotIsInstance(node, BARRED_NODES, path)
                if isinstance(node, ast.BinOp) and isinstance(node.op, ast.Pow):
                    self.assertIsInstance(node.right, ast.Constant, path)
                    self.assertIn(node.right.value, range(65), path)
                if isinstance(node, ast.Compare):
                    for sign, right in zip(node.ops, node.comparators):
                        if isinstance(sign, (ast.Is, ast.IsNot)):
                            self.assertIn(ast.unparse(right), ("None", "True", "False", "self"), path)

    def test_double_underscore_methods(self):
        for path, tree in trees():
            for kind in ast.walk(tree):
                if isinstance(kind, ast.ClassDef):
                    names = [node.name for node in kind.body if isinstance(node, ast.FunctionDef)]
                    self.assertEqual(sorted(set(names)), sorted(names), path)
                    self.assertLessEqual({name for name in names if name.startswith("__")}, DOUBLE_UNDERSCORES, path)
                    if "__getitem__" in names:
                        rows = kind.body[1 + names.index("__iter__")].body
                        self.assertEqual([node.__class__ for node in rows], [ast.Raise], path)
                if isinstance(kind, (ast.FunctionDef, ast.ClassDef)):
                    for decorator in kind.decorator_list:
                        self.assertEqual(ast.unparse(decorator), "property", path)

    def test_what_a_class_with_operators_bars(self):
        for path, tree in trees():
            for node in ast.walk(tree):
                if isinstance(node, ast.FunctionDef) and node.name == "__exit__":
                    for part in ast.walk(node):
                        self.assertNotIsInstance(part, (ast.Call, ast.BinOp, ast.UnaryOp, ast.Subscript), path)
                if isinstance(node, ast.FunctionDef) and node.name in OPERATORS:
                    for part in ast.walk(node):
                        stored = isinstance(getattr(part, "ctx", None), (ast.Store, ast.Del))
                        self.assertFalse(stored and not isinstance(part, (ast.Name, ast.Tuple)), path)
                if isinstance(node, ast.Call) and isinstance(node.func, ast.Attribute):
                    self.assertNotEqual(node.func.attr, "sort", path)
                if isinstance(node, ast.Call) and isinstance(node.func, ast.Name):
                    self.assertNotIn(node.func.id, ("reversed", "getattr", "setattr", "print", "open"), path)

    def test_no_name_is_a_method_and_an_attribute(self):
        methods, stored = set(), set()
        for path, tree in trees():
            for node in ast.walk(tree):
                if isinstance(node, ast.ClassDef):
                    methods.update(part.name for part in node.body if isinstance(part, ast.FunctionDef))
                if isinstance(node, ast.Attribute) and isinstance(node.ctx, ast.Store):
                    stored.add(node.attr)
                    root = node.value
                    while isinstance(root, ast.Attribute):
                        root = root.value
                    self.assertEqual(ast.unparse(root), "self", path)
        self.assertEqual(methods & stored, set())
        self.assertEqual(stored & (METHODS | BARRED_NAMES | {"args", "encode", "decode", "hex", "format"}), set())

    def test_names(self):
        # Python's prompt, and so doctest, binds `_` among the builtins.
        known = set(dir(builtins)) - {"_"}
        own = set()
        for _, tree in trees():
            own.update(node.name for node in ast.walk(tree) if isinstance(node, ast.FunctionDef))
        for path, tree in trees():
            for node in ast.walk(tree):
                if isinstance(node, ast.Name) and isinstance(node.ctx, ast.Load):
                    self.assertIn(node.id, BUILTINS | (own - known) | {node.id} - known, path)
                if isinstance(node, ast.Name) and isinstance(node.ctx, ast.Store):
                    self.assertNotIn(node.id, known, path)
                if isinstance(node, ast.arg):
                    self.assertNotIn(node.arg, known, path)
                if isinstance(node, ast.Call) and isinstance(node.func, ast.Attribute):
                    self.assertIn(node.func.attr, METHODS | own, path)


if __name__ == "__main__":
    unittest.main()
