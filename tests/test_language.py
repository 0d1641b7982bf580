"""The rules of the language subset that can be seen by a plain look at the files."""

import ast
import pathlib
import re
import unittest

PACKAGE = pathlib.Path(__file__).resolve().parent.parent / "halfmade"
BARRED_WORDS = [
    "type", "typing", "typing_extensions", "enum", "Enum", "IntEnum", "StrEnum", "Flag", "IntFlag", "Generic",
    "Protocol", "ABC", "ABCMeta", "namedtuple", "NamedTuple", "TypedDict", "TYPE_CHECKING", "abstractmethod",
]
BARRED_PARTS = ["dataclass", "overload", "contextmanager"]
FUNCTIONS = (ast.FunctionDef, ast.AsyncFunctionDef)


def sources():
    return sorted(path for path in PACKAGE.rglob("*") if "__pycache__" not in path.parts and path.is_file())


def bound_names(tree):
    """Each name that a file binds, of whatever sort."""
    for node in ast.walk(tree):
        if isinstance(node, FUNCTIONS + (ast.ClassDef,)):
            yield node.name
        elif isinstance(node, ast.Name) and isinstance(node.ctx, ast.Store):
            yield node.id
        elif isinstance(node, ast.arg):
            yield node.arg
        elif isinstance(node, ast.Attribute):
            yield node.attr


def parsed():
    """Each file's name, text and tree."""
    texts = [(path.name, path.read_text(encoding="utf-8")) for path in sources()]
    return [(name, text, ast.parse(text)) for name, text in texts]


class TestLanguage(unittest.TestCase):
    def test_files_have_plain_names(self):
        self.assertIn("__init__.py", [path.name for path in sources()])
        for path in sources():
            self.assertRegex(path.name, r"\A[a-z_][a-z0-9_]*\.py\Z")
            self.assertNotRegex(path.name, r"\Atest")

    def test_sizes(self):
        for file, text, tree in parsed():
            lines = text.split("\n")
            self.assertLessEqual(len(lines) - 1, 400, file)
            self.assertLessEqual(max(len(line) for line in lines), 120, file)
            for node in ast.walk(tree):
                if isinstance(node, FUNCTIONS):
                    self.assertLessEqual(node.end_lineno - node.lineno + 1, 40, (file, node.name))

    def test_signs(self):
        for file, text, tree in parsed():
            self.assertRegex(text, r"\A[\n -~]*\Z", file)
            for node in ast.walk(tree):
                if isinstance(node, ast.Constant) and isinstance(node.value, str):
                    self.assertNotIn("%", node.value, file)

    def test_imports(self):
        for file, text, tree in parsed():
            for node in ast.walk(tree):
                self.assertNotIsInstance(node, ast.Import, file)
                if isinstance(node, ast.ImportFrom):
                    self.assertIn(node, tree.body, file)
                    self.assertEqual(node.level, 0, file)
                    self.assertRegex(node.module, r"\Ahalfmade\.[a-z_]+\Z", file)

    def test_words_that_do_not_occur(self):
        for file, text, tree in parsed():
            for word in BARRED_WORDS:
                self.assertIsNone(re.search(rf"\b{word}\b", text), (file, word))
            for part in BARRED_PARTS:
                self.assertNotIn(part, text, file)

    def test_names_begin_with_no_underscore(self):
        for file, text, tree in parsed():
            for name in bound_names(tree):
                self.assertRegex(name, r"\A([A-Za-z]\w*|__[a-z]+__)\Z", file)

    def test_statements_and_values_that_are_left_out(self):
        for file, text, tree in parsed():
            for node in ast.walk(tree):
                self.assertNotIsInstance(node, (ast.Global, ast.AsyncFunctionDef, ast.Div), file)
                if isinstance(node, ast.Constant):
                    self.assertNotIsInstance(node.value, (float, complex), file)


if __name__ == "__main__":
    unittest.main()
