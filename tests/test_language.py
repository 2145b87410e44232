"""The rules of LANGUAGE.md that can be asked of the package's files one by one."""

import ast
import re
import unittest
from pathlib import Path

PACKAGE = Path(__file__).resolve().parent.parent / "pearlrise"
BARRED_WORDS = ["type", "typing", "typing_extensions", "enum", "Enum", "IntEnum", "StrEnum", "Flag", "IntFlag",
                "Generic", "Protocol", "ABC", "ABCMeta", "namedtuple", "NamedTuple", "TypedDict", "TYPE_CHECKING",
                "abstractmethod"]
BARRED_PARTS = ["dataclass", "overload", "contextmanager"]
BARRED_NAMES = ["register", "mro", "elements", "open", "input", "version_info", "with_traceback", "add_note", "chr",
                "eval", "exec", "compile", "globals", "locals", "vars", "getattr", "setattr", "delattr", "hasattr",
                "format", "format_map", "print", "map", "filter", "pow", "round", "hash", "id", "bytearray",
                "memoryview"]
BARRED_NODES = (ast.Global, ast.AsyncFunctionDef, ast.AsyncFor, ast.AsyncWith, ast.Await, ast.Import)


def sources():
    """Each file of the package with its text."""
    return [(path, path.read_bytes().decode("ascii")) for path in sorted(PACKAGE.rglob("*.py"))]


def nodes():
    """Each file of the package with each node of its tree; __main__.py alone may print and import sys."""
    for path, text in sources():
        if path.name != "__main__.py":
            for node in ast.walk(ast.parse(text)):
                yield path.name, node


class Language(unittest.TestCase):
    def test_files(self):
        self.assertTrue((PACKAGE / "__init__.py").is_file())
        for path in PACKAGE.rglob("*"):
            if "__pycache__" not in path.parts:
                self.assertRegex(path.name, r"\A[a-z0-9_]+(\.py)?\Z")

    def test_signs_lines_and_sizes(self):
        for path, text in sources():
            self.assertRegex(text, r"\A[ -~\n]*\Z", path.name)
            lines = text.split("\n")
            self.assertLessEqual(len(lines), 401, path.name)
            for line in lines:
                self.assertLessEqual(len(line), 120, f"{path.name}: {line}")

    def test_functions_are_short(self):
        for name, node in nodes():
            if isinstance(node, ast.FunctionDef):
                self.assertLessEqual(node.end_lineno - node.lineno + 1, 40, f"{name}: {node.name}")

    def test_imports_are_of_the_package(self):
        for name, node in nodes():
            if isinstance(node, ast.ImportFrom):
                self.assertEqual(node.level, 0, name)
                self.assertRegex(node.module, r"\A(pearlrise\.[a-z0-9_]+|__future__)\Z", name)
                self.assertNotIn("*", [alias.name for alias in node.names], name)

    def test_words_that_are_not_used(self):
        for path, text in sources():
            for word in BARRED_WORDS:
                self.assertIsNone(re.search(rf"(?<![A-Za-z0-9_]){word}(?![A-Za-z0-9_])", text), (path.name, word))
            for part in BARRED_PARTS:
                self.assertNotIn(part, text, path.name)

    def test_names_that_are_not_used(self):
        for name, node in nodes():
            if isinstance(node, ast.Name):
                self.assertNotIn(node.id, BARRED_NAMES, name)
                if node.id not in ("__all__", "__version__", "__name__"):
                    self.assertFalse(node.id.startswith("_"), name)

    def test_statements_and_values_that_are_not_used(self):
        for name, node in nodes():
            self.assertNotIsInstance(node, BARRED_NODES, name)
            self.assertNotIsInstance(node, (ast.Div, ast.MatMult), name)
            if isinstance(node, ast.Constant):
                self.assertNotIsInstance(node.value, (float, complex), name)
                if isinstance(node.value, str):
                    self.assertNotIn("%", node.value, name)


if __name__ == "__main__":
    unittest.main()
