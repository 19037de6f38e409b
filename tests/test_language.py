"""The form of the package's code: those rules of the language that can be seen file by file."""

import ast
import builtins
import pathlib
import re
import unittest

TOP = pathlib.Path(__file__).resolve().parent.parent / "bendwright"

BUILTINS = set(
    "len range enumerate zip min max sum abs sorted reversed int str bool bytes list tuple dict set frozenset "
    "isinstance ord repr any all divmod Exception ValueError TypeError KeyError IndexError LookupError "
    "ZeroDivisionError ArithmeticError OverflowError RuntimeError NotImplementedError AttributeError StopIteration "
    "NotImplemented".split()
)

BARRED_WORDS = re.compile(
    r"\b(type|typing|typing_extensions|enum|Enum|IntEnum|StrEnum|Flag|IntFlag|Generic|Protocol|ABC|ABCMeta|namedtuple"
    r"|NamedTuple|TypedDict|TYPE_CHECKING|abstractmethod)\b|dataclass|overload|contextmanager"
)

BARRED_NAMES = set(
    "register mro elements open input version_info with_traceback add_note attrgetter breakpoint builtins compile "
    "copyright credits delattr dir eval exec exit gc getattr globals hasattr help id importlib license locals "
    "methodcaller os quit setattr super sys type vars".split()
)

BARRED_NODES = (
    ast.Global, ast.AsyncFunctionDef, ast.AsyncFor, ast.AsyncWith, ast.Await, ast.Div, ast.MatMult, ast.Import,
)


def files():
    return sorted(TOP.glob("**/*.py"))


def bound_names(tree):
    """All names that a file binds itself, wherever."""
    names = set()
    for node in ast.walk(tree):
        if isinstance(node, ast.Name) and not isinstance(node.ctx, ast.Load):
            names.add(node.id)
        elif isinstance(node, ast.arg):
            names.add(node.arg)
        elif isinstance(node, (ast.FunctionDef, ast.ClassDef)):
            names.add(node.name)
        elif isinstance(node, ast.ImportFrom):
            names.update(alias.asname or alias.name for alias in node.names)
        elif isinstance(node, ast.ExceptHandler) and node.name:
            names.add(node.name)
    return names


def method_names(tree):
    """Methods are free to have the names of builtins."""
    return {
        part.name for node in ast.walk(tree) if isinstance(node, ast.ClassDef)
        for part in node.body if isinstance(part, ast.FunctionDef)
    }


def each():
    """The name, the text and the tree of each file."""
    for path in files():
        text = path.read_text(encoding="utf-8")
        yield path.name, text, ast.parse(text)


class TestLanguage(unittest.TestCase):
    def test_only_python_files_stand_in_the_package(self):
        self.assertTrue((TOP / "__init__.py").is_file())
        for path in TOP.rglob("*"):
            if "__pycache__" not in path.parts:
                self.assertRegex(path.name, r"^[a-z0-9_]+\.py$")

    def test_signs_and_sizes(self):
        for file, text, tree in each():
            self.assertRegex(text, r"\A[ -~\n]*\Z", file)
            lines = text.split("\n")
            self.assertLessEqual(len(lines), 400, file)
            self.assertLessEqual(max(len(line) for line in lines), 120, file)
            for node in ast.walk(tree):
                if isinstance(node, ast.FunctionDef):
                    self.assertLessEqual(node.end_lineno - node.lineno + 1, 40, node.name)

    def test_barred_words(self):
        for file, text, tree in each():
            self.assertIsNone(BARRED_WORDS.search(text), file)

    def test_imports(self):
        for file, text, tree in each():
            for node in ast.walk(tree):
                if isinstance(node, ast.ImportFrom):
                    self.assertEqual(node.level, 0)
                    self.assertRegex(node.module, r"^bendwright\.[a-z_]+$")
                    self.assertIn(node, tree.body)
                    self.assertNotIn("*", [alias.name for alias in node.names])

    def test_module_level(self):
        for file, text, tree in each():
            seen = []
            for node in tree.body:
                self.assertIsInstance(node, (ast.Expr, ast.ImportFrom, ast.FunctionDef, ast.ClassDef, ast.Assign))
                if isinstance(node, ast.Expr):
                    self.assertIsInstance(node.value, ast.Constant)
                if isinstance(node, ast.Assign):
                    seen.append(node.targets[0].id)
                elif isinstance(node, (ast.FunctionDef, ast.ClassDef)):
                    seen.append(node.name)
                elif isinstance(node, ast.ImportFrom):
                    seen.extend(alias.asname or alias.name for alias in node.names)
            self.assertEqual(len(seen), len(set(seen)), file)

    def test_statements_and_values(self):
        for file, text, tree in each():
            for node in ast.walk(tree):
                self.assertNotIsInstance(node, BARRED_NODES, file)
                if isinstance(node, ast.Constant):
                    self.assertNotIsInstance(node.value, (float, complex))
                    self.assertFalse(isinstance(node.value, str) and "%" in node.value)

    def test_names(self):
        for file, text, tree in each():
            bound = bound_names(tree)
            free = method_names(tree)
            for name in bound - free:
                self.assertFalse(name.startswith("_"), name)
                self.assertNotIn(name, BARRED_NAMES)
                self.assertFalse(hasattr(builtins, name), name)
            for node in ast.walk(tree):
                if isinstance(node, ast.Name) and isinstance(node.ctx, ast.Load) and node.id not in bound:
                    self.assertIn(node.id, BUILTINS, file)


if __name__ == "__main__":
    unittest.main()
