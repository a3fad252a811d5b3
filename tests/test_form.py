"""[2]: nothing hangs on a clock, chance or files; and the plain rules on the form of the package's files."""

import ast
import builtins
import pathlib
import re
import unittest

PACKAGE = pathlib.Path(__file__).resolve().parent.parent / "anymeaning"

KNOWN = set(
    "len range enumerate zip min max sum abs sorted reversed int str bool list tuple dict set frozenset isinstance "
    "ord repr any all divmod Exception ValueError TypeError KeyError IndexError LookupError ZeroDivisionError "
    "ArithmeticError OverflowError RuntimeError NotImplementedError AttributeError StopIteration".split()
)

STATEMENTS_LEFT_OUT = (
    ast.With, ast.Match, ast.Delete, ast.Global, ast.Nonlocal, ast.Assert, ast.Yield, ast.YieldFrom, ast.Await,
    ast.AsyncFunctionDef, ast.AsyncFor, ast.AsyncWith, ast.NamedExpr, ast.Starred, ast.SetComp, ast.DictComp,
    ast.GeneratorExp, ast.Div, ast.Import,
)

WORDS_LEFT_OUT = re.compile(
    r"\b(type|typing|typing_extensions|enum|Enum|IntEnum|StrEnum|Flag|IntFlag|Generic|Protocol|ABC|ABCMeta|namedtuple"
    r"|NamedTuple|TypedDict|TYPE_CHECKING|abstractmethod)\b|dataclass|overload|contextmanager"
)


class FormTest(unittest.TestCase):
    def setUp(self):
        paths = sorted(PACKAGE.rglob("*.py"))
        self.texts = {path: path.read_text(encoding="utf-8") for path in paths}
        self.trees = {path: ast.parse(text) for path, text in self.texts.items()}
        self.assertIn(PACKAGE / "__init__.py", paths)

    def nodes(self):
        for path, tree in self.trees.items():
            for node in ast.walk(tree):
                yield path.name, node

    def test_only_python_files_lie_there(self):
        for path in PACKAGE.rglob("*"):
            if "__pycache__" not in path.parts and not path.is_dir():
                self.assertRegex(path.name, r"^[a-z0-9_]+\.py$")

    def test_signs_and_sizes(self):
        for path, text in self.texts.items():
            rows = text.split("\n")
            self.assertLessEqual(len(rows), 400, path.name)
            for number, row in enumerate(rows, start=1):
                self.assertRegex(row, r"^[ -~]{0,120}$", (path.name, number))
                self.assertIsNone(WORDS_LEFT_OUT.search(row), (path.name, number))

    def test_functions_are_short_and_plain(self):
        for name, node in self.nodes():
            if isinstance(node, ast.FunctionDef):
                self.assertLessEqual(node.end_lineno - node.lineno + 1, 40, (name, node.name))
                self.assertEqual(node.decorator_list, [], (name, node.name))
                self.assertIsNone(node.args.vararg, (name, node.name))
                self.assertIsNone(node.args.kwarg, (name, node.name))

    def test_no_statement_that_is_left_out(self):
        for name, node in self.nodes():
            self.assertNotIsInstance(node, STATEMENTS_LEFT_OUT, (name, getattr(node, "lineno", None)))

    def test_imports_are_the_packages_own(self):
        for name, node in self.nodes():
            if isinstance(node, ast.ImportFrom):
                self.assertEqual(node.level, 0, name)
                self.assertTrue(node.module == "__future__" or node.module.startswith("anymeaning."), name)

    def test_names_of_pythons_own(self):
        for name, node in self.nodes():
            if isinstance(node, ast.Name) and hasattr(builtins, node.id):
                self.assertIn(node.id, KNOWN, (name, node.lineno))

    def test_numbers_are_whole(self):
        for name, node in self.nodes():
            if isinstance(node, ast.Constant):
                self.assertNotIsInstance(node.value, (float, complex, bytes), (name, node.lineno))
