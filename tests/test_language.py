"""The rules of the language subset that can be seen by a plain look at the files."""

import ast
import builtins
import pathlib
import re
import unittest

PACKAGE = pathlib.Path(__file__).resolve().parent.parent / "halfmade"
BARRED_WORDS = [
    "type", "typing", "typing_extensions", "enum", "Enum", "IntEnum", "StrEnum", "Flag", "IntFlag", "Generic",
    "Protocol", "ABC", "ABCMeta", "namedtuple", "NamedTuple", "TypedDict", "TYPE_CHECKING", "abstractmethod",
]
BARRED_PARTS = ["dataclass", "overload", "contextmanager"]
FUNCTIONS = (ast.FunctionDef, ast.AsyncFunctionDef)


def sources():
    return sorted(path for path in PACKAGE.rglob("*") if "__pycache__" not in path.parts and path.is_file())


def bound_names(tree):
    """Each name that a file binds, of whatever sort."""
    for node in ast.walk(tree):
        if isinstance(node, FUNCTIONS + (ast.ClassDef,)):
            yield node.name
        elif isinstance(node, ast.Name) and isinstance(node.ctx, ast.Store):
            yield node.id
        elif isinstance(node, ast.arg):
            yield node.arg
        elif isinstance(node, ast.Attribute):
            yield node.attr


def methods_of(tree):
    for node in ast.walk(tree):
        if isinstance(node, ast.ClassDef):
            yield from (part.name for part in node.body if isinstance(part, FUNCTIONS))


def attributes_of(tree):
    """Each name that is assigned as an attribute."""
    for node in ast.walk(tree):
        if isinstance(node, ast.Attribute) and isinstance(node.ctx, ast.Store):
            yield node.attr


def imports_of(tree):
    """The names of the package's files from which a file imports."""
    return [node.module.split(".")[1] + ".py" for node in ast.walk(tree) if isinstance(node, ast.ImportFrom)]


def parsed():
    """Each file's name, text and tree."""
    texts = [(path.name, path.read_text(encoding="utf-8")) for path in sources()]
    return [(name, text, ast.parse(text)) for name, text in texts]


class TestLanguage(unittest.TestCase):
    def test_files_have_plain_names(self):
        self.assertIn("__init__.py", [path.name for path in sources()])
        for path in sources():
            self.assertRegex(path.name, r"\A[a-z_][a-z0-9_]*\.py\Z")
            self.assertNotRegex(path.name, r"\Atest")

    def test_sizes(self):
        for file, text, tree in parsed():
            lines = text.split("\n")
            self.assertLessEqual(len(lines) - 1, 400, file)
            self.assertLessEqual(max(len(line) for line in lines), 120, file)
            for node in ast.walk(tree):
                if isinstance(node, FUNCTIONS):
                    self.assertLessEqual(node.end_lineno - node.lineno + 1, 40, (file, node.name))

    def test_signs(self):
        for file, text, tree in parsed():
            self.assertRegex(text, r"\A[\n -~]*\Z", file)
            for node in ast.walk(tree):
                if isinstance(node, ast.Constant) and isinstance(node.value, str):
                    self.assertNotIn("%", node.value, file)

    def test_imports(self):
        for file, text, tree in parsed():
            for node in ast.walk(tree):
                self.assertNotIsInstance(node, ast.Import, file)
                if isinstance(node, ast.ImportFrom):
                    self.assertIn(node, tree.body, file)
                    self.assertEqual(node.level, 0, file)
                    self.assertRegex(node.module, r"\Ahalfmade\.[a-z_]+\Z", file)

    def test_imports_go_one_way(self):
        left = {file: imports_of(tree) for file, text, tree in parsed()}
        while left:
            free = [file for file in left if not set(left[file]) & set(left)]
            self.assertTrue(free, left)
            for file in free:
                del left[file]

    def test_no_name_is_a_method_here_and_an_attribute_there(self):
        trees = [tree for file, text, tree in parsed()]
        methods = {name for tree in trees for name in methods_of(tree)}
        attributes = {name for tree in trees for name in attributes_of(tree)}
        self.assertEqual(methods & attributes, set())

    def test_is_stands_beside_none_true_and_false_only(self):
        for file, text, tree in parsed():
            for node in ast.walk(tree):
                if isinstance(node, ast.Compare) and any(isinstance(sign, (ast.Is, ast.IsNot)) for sign in node.ops):
                    for part in node.comparators:
                        self.assertIsInstance(part, ast.Constant, (file, node.lineno))
                        self.assertIn(part.value, (None, True, False), (file, node.lineno))

    def test_no_name_of_a_function_hides_an_import(self):
        for file, text, tree in parsed():
            taken = {name.asname or name.name for node in tree.body if isinstance(node, ast.ImportFrom)
                     for name in node.names}
            taken |= {node.name for node in tree.body if isinstance(node, ast.ClassDef)} | set(dir(builtins))
            for function in ast.walk(tree):
                if isinstance(function, FUNCTIONS):
                    own = {node.arg for node in ast.walk(function) if isinstance(node, ast.arg)}
                    own |= {node.id for node in ast.walk(function)
                            if isinstance(node, ast.Name) and isinstance(node.ctx, ast.Store)}
                    self.assertEqual(own & taken, set(), (file, function.name))

    def test_words_that_do_not_occur(self):
        for file, text, tree in parsed():
            for word in BARRED_WORDS:
                self.assertIsNone(re.search(rf"\b{word}\b", text), (file, word))
            for part in BARRED_PARTS:
                self.assertNotIn(part, text, file)

    def test_names_begin_with_no_underscore(self):
        for file, text, tree in parsed():
            for name in bound_names(tree):
                self.assertRegex(name, r"\A([A-Za-z]\w*|__[a-z]+__)\Z", file)

    def test_statements_and_values_that_are_left_out(self):
        for file, text, tree in parsed():
            for node in ast.walk(tree):
                self.assertNotIsInstance(node, (ast.Global, ast.AsyncFunctionDef, ast.Div), file)
                if isinstance(node, ast.Constant):
                    self.assertNotIsInstance(node.value, (float, complex), file)


if __name__ == "__main__":
    unittest.main()
