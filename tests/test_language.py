"""The rules of LANGUAGE.md that can be asked of the package's files one by one."""

import ast
import builtins
import re
import unittest
from pathlib import Path

PACKAGE = Path(__file__).resolve().parent.parent / "pearlrise"
BARRED_WORDS = ["type", "typing", "typing_extensions", "enum", "Enum", "IntEnum", "StrEnum", "Flag", "IntFlag",
                "Generic", "Protocol", "ABC", "ABCMeta", "namedtuple", "NamedTuple", "TypedDict", "TYPE_CHECKING",
                "abstractmethod"]
BARRED_PARTS = ["dataclass", "overload", "contextmanager"]
BARRED_NAMES = ["register", "mro", "elements", "open", "input", "version_info", "with_traceback", "add_note", "chr",
                "eval", "exec", "compile", "globals", "locals", "vars", "getattr", "setattr", "delattr", "hasattr",
                "format", "format_map", "print", "map", "filter", "pow", "round", "hash", "id", "bytearray",
                "memoryview"]
BARRED_NODES = (ast.Global, ast.AsyncFunctionDef, ast.AsyncFor, ast.AsyncWith, ast.Await, ast.Import)
CALLED_BUILTINS = ["len", "range", "enumerate", "zip", "min", "max", "sum", "abs", "sorted", "reversed", "int", "str",
                   "bool", "list", "tuple", "dict", "set", "isinstance", "ord", "repr", "any", "all", "divmod", "iter",
                   "next", "super"]
# The methods of builtin values that L25 lists, without those that read bytes.
METHODS = ["append", "clear", "copy", "count", "endswith", "extend", "find", "get", "index", "insert", "isalnum",
           "isalpha", "isdigit", "islower", "isspace", "isupper", "items", "join", "keys", "ljust", "lower", "lstrip",
           "partition", "pop", "remove", "replace", "reverse", "rfind", "rjust", "rpartition", "rsplit", "rstrip",
           "setdefault", "split", "splitlines", "startswith", "strip", "update", "upper", "values", "zfill",
           "bit_length", "add", "discard"]


def sources():
    """Each file of the package with its text."""
    return [(path, path.read_bytes().decode("ascii")) for path in sorted(PACKAGE.rglob("*.py"))]


def nodes():
    """Each file of the package with each node of its tree; __main__.py alone may print and import sys."""
    for path, text in sources():
        if path.name != "__main__.py":
            for node in ast.walk(ast.parse(text)):
                yield path.name, node


def trees():
    """Each file of the package with its tree."""
    return [(path.stem, ast.parse(text)) for path, text in sources()]


def all_of(kind):
    """Each file's name with each node of a kind."""
    return [(name, node) for name, node in nodes() if isinstance(node, kind)]


def own_methods():
    """The names of all methods of the package's classes."""
    return {part.name for name, node in all_of(ast.ClassDef) for part in node.body if isinstance(part, ast.FunctionDef)}


def own_attributes():
    """The names of all attributes that are assigned."""
    return {node.attr for name, node in all_of(ast.Attribute) if isinstance(node.ctx, ast.Store)}


def bound_inside(function):
    """The names of a function's parameters and local variables."""
    told = [node.arg for node in ast.walk(function) if isinstance(node, ast.arg)]
    return told + [node.id for node in ast.walk(function)
                   if isinstance(node, ast.Name) and isinstance(node.ctx, ast.Store)]


def defined(tree):
    """The names that a file's module level binds, but for its imports."""
    told = [node.name for node in tree.body if isinstance(node, (ast.FunctionDef, ast.ClassDef))]
    return told + [target.id for node in tree.body if isinstance(node, ast.Assign) for target in node.targets]


def imported(tree):
    """What a file imports: tuples of a module's name and the name that is imported."""
    return [(node.module.split(".")[-1], alias.name) for node in tree.body
            if isinstance(node, ast.ImportFrom) for alias in node.names]


class Language(unittest.TestCase):
    def test_files(self):
        self.assertTrue((PACKAGE / "__init__.py").is_file())
        for path in PACKAGE.rglob("*"):
            if "__pycache__" not in path.parts:
                self.assertRegex(path.name, r"\A[a-z0-9_]+(\.py)?\Z")

    def test_signs_lines_and_sizes(self):
        for path, text in sources():
            self.assertRegex(text, r"\A[ -~\n]*\Z", path.name)
            lines = text.split("\n")
            self.assertLessEqual(len(lines), 401, path.name)
            for line in lines:
                self.assertLessEqual(len(line), 120, f"{path.name}: {line}")

    def test_functions_are_short(self):
        for name, node in nodes():
            if isinstance(node, ast.FunctionDef):
                self.assertLessEqual(node.end_lineno - node.lineno + 1, 40, f"{name}: {node.name}")

    def test_imports_are_of_the_package(self):
        for name, node in nodes():
            if isinstance(node, ast.ImportFrom):
                self.assertEqual(node.level, 0, name)
                self.assertRegex(node.module, r"\A(pearlrise\.[a-z0-9_]+|__future__)\Z", name)
                self.assertNotIn("*", [alias.name for alias in node.names], name)

    def test_words_that_are_not_used(self):
        for path, text in sources():
            for word in BARRED_WORDS:
                self.assertIsNone(re.search(rf"(?<![A-Za-z0-9_]){word}(?![A-Za-z0-9_])", text), (path.name, word))
            for part in BARRED_PARTS:
                self.assertNotIn(part, text, path.name)

    def test_names_that_are_not_used(self):
        for name, node in nodes():
            if isinstance(node, ast.Name):
                self.assertNotIn(node.id, BARRED_NAMES, name)
                if node.id not in ("__all__", "__version__", "__name__"):
                    self.assertFalse(node.id.startswith("_"), name)

    def test_statements_and_values_that_are_not_used(self):
        for name, node in nodes():
            self.assertNotIsInstance(node, BARRED_NODES, name)
            self.assertNotIsInstance(node, (ast.Div, ast.MatMult), name)
            if isinstance(node, ast.Constant):
                self.assertNotIsInstance(node.value, (float, complex), name)
                if isinstance(node.value, str):
                    self.assertNotIn("%", node.value, name)

    def test_each_name_is_bound_once_and_imported_from_where_it_is_defined(self):
        by_name = dict(trees())
        for name, tree in trees():
            bound = defined(tree) + [word for module, word in imported(tree)]
            self.assertEqual(len(bound), len(set(bound)), name)
            for module, word in imported(tree):
                self.assertIn(word, defined(by_name[module]), (name, module))

    def test_no_two_files_import_from_each_other(self):
        wanted = {name: {module for module, word in imported(tree)} for name, tree in trees()}
        while wanted:
            ready = [name for name in wanted if not wanted[name] & set(wanted)]
            self.assertTrue(ready, wanted)
            for name in ready:
                del wanted[name]

    def test_no_local_name_is_that_of_a_class_an_import_or_a_builtin(self):
        for name, tree in trees():
            taken = {word for module, word in imported(tree)} | set(dir(builtins))
            taken |= {node.name for node in tree.body if isinstance(node, ast.ClassDef)}
            for node in ast.walk(tree):
                if isinstance(node, ast.FunctionDef):
                    self.assertEqual(set(bound_inside(node)) & taken, set(), (name, node.name))

    def test_no_name_is_a_method_and_an_attribute(self):
        self.assertEqual(own_methods() & own_attributes(), set())

    def test_calls(self):
        own = own_methods()
        for name, node in all_of(ast.Call):
            if isinstance(node.func, ast.Name) and node.func.id in dir(builtins):
                self.assertIn(node.func.id, CALLED_BUILTINS, name)
            if isinstance(node.func, ast.Attribute) and node.func.attr != "__init__":
                self.assertIn(node.func.attr, own | set(METHODS), name)

    def test_no_generator_expressions_where_things_are_compared(self):
        self.assertEqual(all_of(ast.GeneratorExp), [])

    def test_is_stands_beside_none_and_truths_alone(self):
        for name, node in all_of(ast.Compare):
            for sign, right in zip(node.ops, node.comparators):
                if isinstance(sign, (ast.Is, ast.IsNot)):
                    self.assertIsInstance(right, ast.Constant, name)
                    self.assertIn(right.value, (None, True, False), name)

    def test_module_level_is_plain(self):
        for name, tree in trees():
            for at, node in enumerate(tree.body):
                if at == 0:
                    self.assertIsInstance(node.value, ast.Constant, name)
                else:
                    self.assertIsInstance(node, (ast.ImportFrom, ast.FunctionDef, ast.ClassDef, ast.Assign), name)
                if isinstance(node, ast.Assign):
                    self.assertFalse([part for part in ast.walk(node) if isinstance(part, ast.Call)], name)

    def test_errors_are_own_and_raised_on_the_spot(self):
        own = set(defined(dict(trees())["errors"]))
        for name, node in all_of(ast.ExceptHandler):
            kinds = node.type.elts if isinstance(node.type, ast.Tuple) else [node.type]
            self.assertEqual({kind.id for kind in kinds} - own, set(), name)
        for name, node in all_of(ast.Raise):
            self.assertIn(node.exc.func.id, own, name)

    def test_shown_and_compared_without_changes(self):
        for name, node in all_of(ast.FunctionDef):
            if node.name in ("__eq__", "__repr__", "__str__", "__len__"):
                self.assertIsInstance(node.body[-1], ast.Return, name)
                for part in ast.walk(node):
                    self.assertNotIsInstance(part, (ast.AugAssign, ast.Delete, ast.NamedExpr, ast.For), name)
                    if isinstance(part, ast.Assign):
                        self.assertIsInstance(part.value, (ast.List, ast.ListComp), name)
                    if isinstance(part, ast.Return) and node.name == "__len__":
                        self.assertEqual(part.value.func.id, "len", name)


if __name__ == "__main__":
    unittest.main()
