"""The form of the package's code: those rules of the language that can be seen file by file."""

import ast
import builtins
import pathlib
import re
import unittest
import warnings

TOP = pathlib.Path(__file__).resolve().parent.parent / "bendwright"

BUILTINS = set(
    "len range enumerate zip min max sum abs sorted reversed int str bool bytes list tuple dict set frozenset "
    "isinstance ord repr any all divmod Exception ValueError TypeError KeyError IndexError LookupError "
    "ZeroDivisionError ArithmeticError OverflowError RuntimeError NotImplementedError AttributeError StopIteration "
    "NotImplemented".split()
)

BARRED_WORDS = re.compile(
    r"\b(type|typing|typing_extensions|enum|Enum|IntEnum|StrEnum|Flag|IntFlag|Generic|Protocol|ABC|ABCMeta|namedtuple"
    r"|NamedTuple|TypedDict|TYPE_CHECKING|abstractmethod)\b|dataclass|overload|contextmanager"
)

BARRED_NAMES = set(
    "register mro elements open input version_info with_traceback add_note attrgetter breakpoint builtins compile "
    "copyright credits delattr dir eval exec exit gc getattr globals hasattr help id importlib license locals "
    "methodcaller os quit setattr super sys type vars".split()
)

METHODS = set(
    "append clear copy count endswith extend find get index insert isalnum isalpha isdigit islower isspace isupper "
    "items join keys ljust lower lstrip partition pop remove replace reverse rfind rjust rpartition rsplit rstrip "
    "setdefault split splitlines startswith strip update upper values zfill bit_length sort".split()
)

DUNDERS = set("__init__ __eq__ __repr__ __str__ __len__ __enter__ __exit__ __call__ __iter__".split())

AT_ONCE = ("zip", "enumerate", "reversed", "range")
TAKERS = ("list", "tuple", "dict", "sorted", "sum", "any", "all", "enumerate", "zip", "min", "max")

# The rows behind the first are allowed within bounds that aren't tested here; the package does without.
BARRED_NODES = (
    ast.Global, ast.AsyncFunctionDef, ast.AsyncFor, ast.AsyncWith, ast.Await, ast.Div, ast.MatMult, ast.Import,
    ast.Set, ast.SetComp, ast.GeneratorExp, ast.Yield, ast.YieldFrom, ast.Lambda, ast.AnnAssign, ast.JoinedStr,
    ast.Try, ast.With, ast.Match, ast.NamedExpr, ast.Delete, ast.Nonlocal, ast.Assert,
)


def files():
    return sorted(TOP.glob("**/*.py"))


def bound_names(tree):
    """All names that a file binds itself, wherever."""
    names = set()
    for node in ast.walk(tree):
        if isinstance(node, ast.Name) and not isinstance(node.ctx, ast.Load):
            names.add(node.id)
        elif isinstance(node, ast.arg):
            names.add(node.arg)
        elif isinstance(node, (ast.FunctionDef, ast.ClassDef)):
            names.add(node.name)
        elif isinstance(node, ast.ImportFrom):
            names.update(alias.asname or alias.name for alias in node.names)
        elif isinstance(node, ast.ExceptHandler) and node.name:
            names.add(node.name)
    return names


def method_names(tree):
    """Methods are free to have the names of builtins."""
    return {
        part.name for node in ast.walk(tree) if isinstance(node, ast.ClassDef)
        for part in node.body if isinstance(part, ast.FunctionDef)
    }


def file_names(tree):
    """The names of the classes and the imports of a file, which nothing else in it may have."""
    names = set()
    for node in tree.body:
        if isinstance(node, ast.ClassDef):
            names.add(node.name)
        elif isinstance(node, ast.ImportFrom):
            names.update(alias.asname or alias.name for alias in node.names)
    return names


def inner_names(tree):
    """Parameters, and what functions assign, loop and comprehend over."""
    for part in ast.walk(tree):
        if isinstance(part, ast.FunctionDef):
            for node in ast.walk(part):
                if isinstance(node, ast.arg):
                    yield node.arg
                elif isinstance(node, ast.Name) and isinstance(node.ctx, ast.Store):
                    yield node.id


def iterated(tree):
    """What loops and comprehensions iterate over, and what builtins that take it at once are passed first."""
    for node in ast.walk(tree):
        if isinstance(node, (ast.For, ast.comprehension)):
            yield node.iter
        elif isinstance(node, ast.Call) and isinstance(node.func, ast.Name) and node.func.id in TAKERS and node.args:
            yield node.args[0]
            if node.func.id == "zip":
                yield from node.args[1:]


def own_methods():
    return {name for file, text, tree in each() for name in method_names(tree)}


def assigned_attributes():
    return {
        node.attr for file, text, tree in each() for node in ast.walk(tree)
        if isinstance(node, ast.Attribute) and isinstance(node.ctx, ast.Store)
    }


def each():
    """The name, the text and the tree of each file."""
    for path in files():
        text = path.read_text(encoding="utf-8")
        yield path.name, text, ast.parse(text)


class TestLanguage(unittest.TestCase):
    def test_only_python_files_stand_in_the_package(self):
        self.assertTrue((TOP / "__init__.py").is_file())
        for path in TOP.rglob("*"):
            if "__pycache__" not in path.parts:
                self.assertRegex(path.name, r"^[a-z0-9_]+\.py$")

    def test_signs_and_sizes(self):
        for file, text, tree in each():
            self.assertRegex(text, r"\A[ -~\n]*\Z", file)
            lines = text.split("\n")
            self.assertLessEqual(len(lines), 400, file)
            self.assertLessEqual(max(len(line) for line in lines), 120, file)
            for node in ast.walk(tree):
                if isinstance(node, ast.FunctionDef):
                    self.assertLessEqual(node.end_lineno - node.lineno + 1, 40, node.name)

    def test_barred_words(self):
        for file, text, tree in each():
            self.assertIsNone(BARRED_WORDS.search(text), file)

    def test_imports(self):
        for file, text, tree in each():
            for node in ast.walk(tree):
                if isinstance(node, ast.ImportFrom):
                    self.assertEqual(node.level, 0)
                    self.assertRegex(node.module, r"^bendwright\.[a-z_]+$")
                    self.assertIn(node, tree.body)
                    self.assertNotIn("*", [alias.name for alias in node.names])

    def test_module_level(self):
        for file, text, tree in each():
            seen = []
            for node in tree.body:
                self.assertIsInstance(node, (ast.Expr, ast.ImportFrom, ast.FunctionDef, ast.ClassDef, ast.Assign))
                if isinstance(node, ast.Expr):
                    self.assertIsInstance(node.value, ast.Constant)
                if isinstance(node, ast.Assign):
                    seen.append(node.targets[0].id)
                elif isinstance(node, (ast.FunctionDef, ast.ClassDef)):
                    seen.append(node.name)
                elif isinstance(node, ast.ImportFrom):
                    seen.extend(alias.asname or alias.name for alias in node.names)
            self.assertEqual(len(seen), len(set(seen)), file)

    def test_statements_and_values(self):
        for file, text, tree in each():
            for node in ast.walk(tree):
                self.assertNotIsInstance(node, BARRED_NODES, file)
                if isinstance(node, ast.Constant):
                    self.assertNotIsInstance(node.value, (float, complex))
                    self.assertFalse(isinstance(node.value, str) and "%" in node.value)

    def test_names(self):
        for file, text, tree in each():
            bound = bound_names(tree)
            free = method_names(tree)
            for name in bound - free:
                self.assertFalse(name.startswith("_"), name)
                self.assertNotIn(name, BARRED_NAMES)
                self.assertFalse(hasattr(builtins, name), name)
            for node in ast.walk(tree):
                if isinstance(node, ast.Name) and isinstance(node.ctx, ast.Load) and node.id not in bound:
                    self.assertIn(node.id, BUILTINS, file)

    def test_nothing_has_the_name_of_a_class_or_an_import(self):
        for file, text, tree in each():
            for name in inner_names(tree):
                self.assertNotIn(name, file_names(tree), file)

    def test_imports_name_the_file_that_defines_the_name(self):
        trees = {file[:-3]: tree for file, text, tree in each()}
        for tree in trees.values():
            for node in tree.body:
                if isinstance(node, ast.ImportFrom):
                    defining = trees[node.module.split(".")[1]]
                    defined = bound_names(ast.Module([
                        part for part in defining.body if not isinstance(part, ast.ImportFrom)
                    ], []))
                    for alias in node.names:
                        self.assertIsNone(alias.asname)
                        self.assertIn(alias.name, defined)

    def test_no_two_files_import_from_each_other(self):
        ahead = {
            file[:-3]: {node.module.split(".")[1] for node in tree.body if isinstance(node, ast.ImportFrom)}
            for file, text, tree in each()
        }
        while ahead:
            free = [file for file in ahead if not ahead[file] & set(ahead)]
            self.assertTrue(free, ahead)
            for file in free:
                del ahead[file]

    def test_every_import_is_used(self):
        for file, text, tree in each():
            used = {node.id for node in ast.walk(tree) if isinstance(node, ast.Name)}
            for node in tree.body:
                if isinstance(node, ast.ImportFrom):
                    self.assertLessEqual({alias.name for alias in node.names}, used, file)

    def test_is_stands_with_none_true_and_false_only(self):
        for file, text, tree in each():
            for node in ast.walk(tree):
                if isinstance(node, ast.Compare):
                    for sign, right in zip(node.ops, node.comparators):
                        if isinstance(sign, (ast.Is, ast.IsNot)):
                            self.assertIsInstance(right, ast.Constant)
                            self.assertIn(repr(right.value), ("None", "True", "False"))

    def test_methods_and_attributes(self):
        own, assigned = own_methods(), assigned_attributes()
        self.assertEqual(own & assigned, set())
        self.assertEqual(own & (METHODS | set(dir(bytes)) - DUNDERS - set(dir(object))), set())
        for name in assigned:
            for builtin in (str, int, list, dict, set, bytes, tuple):
                self.assertFalse(hasattr(builtin, name), name)
        for file, text, tree in each():
            called = {id(node.func) for node in ast.walk(tree) if isinstance(node, ast.Call)}
            for node in ast.walk(tree):
                if isinstance(node, ast.Attribute) and id(node) in called:
                    self.assertIn(node.attr, METHODS | own, file)
                elif isinstance(node, ast.Attribute):
                    self.assertIn(node.attr, assigned, file)

    def test_classes(self):
        for file, text, tree in each():
            for node in tree.body:
                if isinstance(node, ast.ClassDef):
                    self.assertEqual(node.decorator_list + node.keywords, [])
                    for part in node.body:
                        self.assertIsInstance(part, (ast.Expr, ast.FunctionDef))
                        if isinstance(part, ast.FunctionDef) and part.name.startswith("__"):
                            self.assertIn(part.name, DUNDERS)
            for node in ast.walk(tree):
                if isinstance(node, ast.FunctionDef):
                    self.assertEqual(node.decorator_list + node.args.posonlyargs, [])

    def test_iterated_at_once(self):
        for file, text, tree in each():
            taken = {id(node) for node in iterated(tree)}
            for node in ast.walk(tree):
                if isinstance(node, ast.Call) and isinstance(node.func, ast.Name) and node.func.id in AT_ONCE:
                    inner = node.args and node.func.id == "reversed" and isinstance(node.args[0], ast.Call)
                    if inner:
                        taken.add(id(node.args[0]))
                    self.assertIn(id(node), taken, file)

    def test_tables_are_only_read(self):
        for file, text, tree in each():
            tables = {
                node.targets[0].id for node in tree.body
                if isinstance(node, ast.Assign) and isinstance(node.value, (ast.List, ast.Dict))
            }
            read = set()
            for node in ast.walk(tree):
                if isinstance(node, ast.Subscript) and isinstance(node.ctx, ast.Load):
                    read.add(id(node.value))
                elif isinstance(node, ast.Attribute) and node.attr == "get":
                    read.add(id(node.value))
                elif isinstance(node, ast.Compare):
                    read.update(id(part) for part in node.comparators)
            for node in ast.walk(tree):
                if isinstance(node, ast.Name) and isinstance(node.ctx, ast.Load) and node.id in tables:
                    self.assertIn(id(node), read, node.id)

    def test_what_is_iterated_is_not_changed(self):
        changing = {"append", "extend", "insert", "pop", "remove", "clear", "reverse", "update", "setdefault", "sort"}
        for file, text, tree in each():
            for loop in ast.walk(tree):
                if isinstance(loop, ast.For):
                    names = {node.id for node in ast.walk(loop.iter) if isinstance(node, ast.Name)}
                    for node in ast.walk(ast.Module(loop.body, [])):
                        if isinstance(node, ast.Attribute) and node.attr in changing:
                            self.assertNotIn(getattr(node.value, "id", None), names, file)
                        if isinstance(node, ast.Subscript) and not isinstance(node.ctx, ast.Load):
                            self.assertNotIn(getattr(node.value, "id", None), names, file)

    def test_functions_stand_at_the_top_or_in_classes(self):
        for file, text, tree in each():
            inner = [part for node in tree.body if isinstance(node, ast.ClassDef) for part in node.body]
            for node in ast.walk(tree):
                if isinstance(node, ast.FunctionDef):
                    self.assertIn(node, tree.body + inner, file)
                    self.assertIsNotNone(ast.get_docstring(node) or node.name == "__init__" or None, node.name)
                elif isinstance(node, ast.ClassDef):
                    self.assertIn(node, tree.body, file)
                    self.assertIsNotNone(ast.get_docstring(node), node.name)

    def test_no_warnings_and_plain_escapes(self):
        for file, text, tree in each():
            with warnings.catch_warnings():
                warnings.simplefilter("error")
                compile(text, file, "exec")
            self.assertNotRegex(text, r"\\[^nt\\'\"]", file)
            self.assertNotIn("**", text, file)


if __name__ == "__main__":
    unittest.main()
