"""Those rules of the language subset that are plain to read off the package's files."""

import ast
import pathlib
import re
import unittest

PACKAGE = pathlib.Path(__file__).resolve().parent.parent / "nestmend"
FILES = sorted(PACKAGE.glob("*.py"))
TEXTS = [(file.name, file.read_text(encoding="utf-8")) for file in FILES]
BARRED = re.compile(
    r"\b(type|typing|typing_extensions|enum|Enum|IntEnum|StrEnum|Flag|IntFlag|Generic|Protocol|ABC|ABCMeta"
    r"|namedtuple|NamedTuple|TypedDict|TYPE_CHECKING|abstractmethod)\b|dataclass|overload|contextmanager"
)
BUILTINS = set(
    "len range enumerate zip min max sum abs sorted reversed int str bool bytes list tuple dict set frozenset"
    " isinstance ord repr any all divmod Exception ValueError TypeError KeyError IndexError LookupError"
    " ZeroDivisionError ArithmeticError OverflowError RuntimeError NotImplementedError AttributeError"
    " StopIteration NotImplemented super property staticmethod classmethod object".split()
)


# Methods of builtin values that may be called.
METHODS = set(
    "append clear copy count endswith extend find get index insert isalnum isalpha isdigit islower isspace isupper"
    " items join keys ljust lower lstrip partition pop remove replace reverse rfind rjust rpartition rsplit rstrip"
    " setdefault split splitlines startswith strip update upper values zfill bit_length add discard".split()
)


def bound_names(tree):
    """All names that a file gives a meaning."""
    names = set()
    for node in ast.walk(tree):
        if isinstance(node, (ast.FunctionDef, ast.ClassDef)):
            names.add(node.name)
        elif isinstance(node, ast.arg):
            names.add(node.arg)
        elif isinstance(node, ast.alias):
            names.add(node.name)
        elif isinstance(node, ast.Name) and not isinstance(node.ctx, ast.Load):
            names.add(node.id)
    return names


class Language(unittest.TestCase):
    def test_the_folder(self):
        others = [one.name for one in PACKAGE.iterdir() if one.suffix != ".py" and one.name != "__pycache__"]
        self.assertEqual(others, [])
        self.assertIn(PACKAGE / "__init__.py", FILES)

    def test_characters_and_sizes(self):
        for name, text in TEXTS:
            self.assertRegex(text, r"\A[ -~\n]*\Z", name)
            rows = text.split("\n")
            self.assertLessEqual(len(rows), 401, name)
            self.assertLessEqual(max(len(row) for row in rows), 120, name)
            for node in ast.walk(ast.parse(text)):
                if isinstance(node, ast.FunctionDef):
                    self.assertLessEqual(node.end_lineno - node.lineno + 1, 40, node.name)

    def test_barred_words(self):
        for name, text in TEXTS:
            self.assertIsNone(BARRED.search(text), name)

    def test_imports(self):
        for name, text in TEXTS:
            tree = ast.parse(text)
            found = [node for node in ast.walk(tree) if isinstance(node, (ast.Import, ast.ImportFrom))]
            for node in found:
                self.assertIsInstance(node, ast.ImportFrom, name)
                self.assertEqual(node.level, 0, name)
                self.assertTrue(node.module.startswith("nestmend."), name)
                self.assertIn(node, tree.body, name)

    def test_names(self):
        for name, text in TEXTS:
            tree = ast.parse(text)
            bound = bound_names(tree)
            self.assertEqual(bound & BUILTINS, set(), name)
            for one in bound:
                self.assertFalse(one.startswith("_") and not re.fullmatch(r"__\w+__", one), one)
            read = {node.id for node in ast.walk(tree) if isinstance(node, ast.Name)}
            self.assertEqual(read - bound - BUILTINS, set(), name)

    def test_methods_and_attributes(self):
        methods, stored, called, read = set(), set(), set(), set()
        for _, text in TEXTS:
            for node in ast.walk(ast.parse(text)):
                if isinstance(node, ast.ClassDef):
                    methods |= {one.name for one in node.body if isinstance(one, ast.FunctionDef)}
                elif isinstance(node, ast.Attribute) and isinstance(node.ctx, ast.Store):
                    stored.add(node.attr)
                elif isinstance(node, ast.Call) and isinstance(node.func, ast.Attribute):
                    called.add(node.func.attr)
                elif isinstance(node, ast.Attribute):
                    read.add(node.attr)
        self.assertEqual(methods & stored, set())
        self.assertEqual(called - methods - METHODS, set())
        self.assertEqual(read - stored - called, set())

    def test_each_import_names_the_file_that_defines_the_name(self):
        trees = {name.removesuffix(".py"): ast.parse(text) for name, text in TEXTS}
        for name, tree in trees.items():
            bound = [one for node in tree.body if isinstance(node, ast.ImportFrom) for one in node.names]
            names = [node for node in ast.walk(tree) if isinstance(node, ast.Name)]
            inner = {node.id for node in names if isinstance(node.ctx, ast.Store)}
            inner |= {node.arg for node in ast.walk(tree) if isinstance(node, ast.arg)}
            self.assertEqual(inner & {one.name for one in bound}, set(), name)
            for node in tree.body:
                if isinstance(node, ast.ImportFrom):
                    there = trees[node.module.removeprefix("nestmend.")].body
                    defined = {one.name for one in there if isinstance(one, (ast.FunctionDef, ast.ClassDef))}
                    defined |= {one.targets[0].id for one in there if isinstance(one, ast.Assign)}
                    self.assertLessEqual({one.name for one in node.names}, defined, name)


if __name__ == "__main__":
    unittest.main()
