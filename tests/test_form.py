"""[2]: nothing hangs on a clock, chance or files; and the plain rules on the form of the package's files."""

import ast
import builtins
import pathlib
import re
import unittest

PACKAGE = pathlib.Path(__file__).resolve().parent.parent / "anymeaning"

KNOWN = set(
    "len range enumerate zip min max sum abs sorted reversed int str bool list tuple dict set frozenset isinstance "
    "ord repr any all divmod Exception ValueError TypeError KeyError IndexError LookupError ZeroDivisionError "
    "ArithmeticError OverflowError RuntimeError NotImplementedError AttributeError StopIteration".split()
)

STATEMENTS_LEFT_OUT = (
    ast.With, ast.Match, ast.Delete, ast.Global, ast.Nonlocal, ast.Assert, ast.Yield, ast.YieldFrom, ast.Await,
    ast.AsyncFunctionDef, ast.AsyncFor, ast.AsyncWith, ast.NamedExpr, ast.Starred, ast.SetComp, ast.DictComp,
    ast.GeneratorExp, ast.Div, ast.Import,
)

WORDS_LEFT_OUT = re.compile(
    r"\b(type|typing|typing_extensions|enum|Enum|IntEnum|StrEnum|Flag|IntFlag|Generic|Protocol|ABC|ABCMeta|namedtuple"
    r"|NamedTuple|TypedDict|TYPE_CHECKING|abstractmethod)\b|dataclass|overload|contextmanager"
)

NAMES_LEFT_OUT = set(
    "register mro elements open input version_info with_traceback add_note attrgetter breakpoint builtins compile "
    "copyright credits delattr dir eval exec exit gc getattr globals hasattr help id importlib license locals "
    "methodcaller os quit setattr super type vars sys chr print format format_map".split()
)

METHODS = set(
    "append clear copy count endswith extend find get index insert isalnum isalpha isdigit islower isspace isupper "
    "items join keys ljust lower lstrip partition pop remove replace reverse rfind rjust rpartition rsplit rstrip "
    "setdefault split splitlines startswith strip update upper values zfill bit_length".split()
)


class FormTest(unittest.TestCase):
    def setUp(self):
        paths = sorted(PACKAGE.rglob("*.py"))
        self.texts = {path: path.read_text(encoding="utf-8") for path in paths}
        self.trees = {path: ast.parse(text) for path, text in self.texts.items()}
        self.assertIn(PACKAGE / "__init__.py", paths)

    def nodes(self):
        for path, tree in self.trees.items():
            for node in ast.walk(tree):
                yield path.name, node

    def test_only_python_files_lie_there(self):
        for path in PACKAGE.rglob("*"):
            if "__pycache__" not in path.parts and not path.is_dir():
                self.assertRegex(path.name, r"^[a-z0-9_]+\.py$")

    def test_signs_and_sizes(self):
        for path, text in self.texts.items():
            rows = text.split("\n")
            self.assertLessEqual(len(rows), 400, path.name)
            for number, row in enumerate(rows, start=1):
                self.assertRegex(row, r"^[ -~]{0,120}$", (path.name, number))
                self.assertIsNone(WORDS_LEFT_OUT.search(row), (path.name, number))

    def test_functions_are_short_and_plain(self):
        for name, node in self.nodes():
            if isinstance(node, ast.FunctionDef):
                self.assertLessEqual(node.end_lineno - node.lineno + 1, 40, (name, node.name))
                self.assertEqual(node.decorator_list, [], (name, node.name))
                self.assertIsNone(node.args.vararg, (name, node.name))
                self.assertIsNone(node.args.kwarg, (name, node.name))

    def test_no_statement_that_is_left_out(self):
        for name, node in self.nodes():
            self.assertNotIsInstance(node, STATEMENTS_LEFT_OUT, (name, getattr(node, "lineno", None)))

    def test_imports_are_the_packages_own(self):
        for name, node in self.nodes():
            if isinstance(node, ast.ImportFrom):
                self.assertEqual(node.level, 0, name)
                self.assertTrue(node.module == "__future__" or node.module.startswith("anymeaning."), name)

    def test_names_of_pythons_own(self):
        for name, node in self.nodes():
            if isinstance(node, ast.Name) and hasattr(builtins, node.id):
                self.assertIn(node.id, KNOWN, (name, node.lineno))

    def test_numbers_are_whole(self):
        for name, node in self.nodes():
            if isinstance(node, ast.Constant):
                self.assertNotIsInstance(node.value, (float, complex, bytes), (name, node.lineno))

    def test_top_of_a_module(self):
        for path, tree in self.trees.items():
            bound = []
            for number, node in enumerate(tree.body):
                if isinstance(node, ast.Expr):
                    self.assertEqual(number, 0, (path.name, node.lineno))
                    self.assertIsInstance(node.value.value, str)
                elif isinstance(node, ast.Assign):
                    self.assertEqual(len(node.targets), 1)
                    bound.append(node.targets[0].id)
                    for part in ast.walk(node.value):
                        self.assertIsInstance(part, (ast.Constant, ast.Tuple, ast.expr_context), path.name)
                elif isinstance(node, ast.ImportFrom):
                    bound += [name.name for name in node.names]
                    self.assertTrue(all(name.asname is None and name.name != "*" for name in node.names))
                else:
                    self.assertIsInstance(node, (ast.FunctionDef, ast.ClassDef), (path.name, node.lineno))
                    bound.append(node.name)
            self.assertEqual(len(bound), len(set(bound)), path.name)

    def test_statements(self):
        known = (
            ast.Module, ast.FunctionDef, ast.ClassDef, ast.ImportFrom, ast.Assign, ast.AugAssign, ast.If, ast.While,
            ast.For, ast.Return, ast.Break, ast.Continue, ast.Pass, ast.Raise, ast.Try, ast.Expr,
        )
        for name, node in self.nodes():
            if isinstance(node, ast.stmt):
                self.assertIsInstance(node, known, (name, node.lineno))
            if isinstance(node, (ast.For, ast.While)):
                self.assertEqual(node.orelse, [], (name, node.lineno))
            if isinstance(node, ast.Assign):
                self.assertEqual(len(node.targets), 1, (name, node.lineno))
                self.assertNotIsInstance(node.targets[0], (ast.Tuple, ast.List), (name, node.lineno))
            if isinstance(node, ast.Try):
                self.assertEqual(node.finalbody, [], (name, node.lineno))
                for handler in node.handlers:
                    self.assertIsInstance(handler.type, ast.Name, (name, node.lineno))
                    self.assertTrue(handler.type.id.startswith("No"), (name, node.lineno))

    def test_expressions(self):
        for name, node in self.nodes():
            if isinstance(node, ast.ListComp):
                self.assertEqual(len(node.generators), 1, (name, node.lineno))
                self.assertLessEqual(len(node.generators[0].ifs), 1, (name, node.lineno))
            if isinstance(node, ast.Compare):
                for operator, right in zip(node.ops, node.comparators):
                    if isinstance(operator, (ast.Is, ast.IsNot)):
                        self.assertIn(right.value, (None, True, False), (name, node.lineno))
            if isinstance(node, (ast.Set, ast.JoinedStr, ast.Pow)):
                self.fail((name, node))
            if isinstance(node, ast.Constant) and isinstance(node.value, str):
                self.assertNotIn(chr(37), node.value, (name, node.lineno))
            if isinstance(node, ast.arg):
                self.assertIsNone(node.annotation, (name, node.lineno))
            if isinstance(node, ast.Call) and isinstance(node.func, ast.Name) and hasattr(builtins, node.func.id):
                for keyword in node.keywords:
                    self.assertIn(keyword.arg, ("key", "reverse", "default", "start", "strict"), (name, node.lineno))

    def test_names_are_plain(self):
        for name, node in self.nodes():
            for word in (getattr(node, "id", None), getattr(node, "arg", None), getattr(node, "attr", None)):
                if isinstance(word, str) and word != "__init__":
                    self.assertRegex(word, r"^[A-Za-z][A-Za-z0-9_]*$", name)
                    self.assertNotIn(word, NAMES_LEFT_OUT, name)

    def test_locals_have_names_of_their_own(self):
        for path, tree in self.trees.items():
            taken = set(dir(builtins))
            for node in tree.body:
                if isinstance(node, ast.ClassDef):
                    taken.add(node.name)
                if isinstance(node, ast.ImportFrom):
                    taken.update(name.name for name in node.names)
            for node in ast.walk(tree):
                if isinstance(node, ast.arg):
                    self.assertNotIn(node.arg, taken, (path.name, node.lineno))
                if isinstance(node, ast.Name) and isinstance(node.ctx, ast.Store):
                    self.assertNotIn(node.id, taken, (path.name, node.lineno))

    def test_imports_from_the_file_that_defines_the_name_and_in_no_ring(self):
        defined = {}
        drawn = {}
        for path, tree in self.trees.items():
            module = "anymeaning." + path.stem
            defined[module] = {node.name for node in tree.body if isinstance(node, (ast.FunctionDef, ast.ClassDef))}
            defined[module] |= {node.targets[0].id for node in tree.body if isinstance(node, ast.Assign)}
            drawn[module] = [node for node in tree.body if isinstance(node, ast.ImportFrom)]
        for module, rows in drawn.items():
            for row in rows:
                for name in row.names:
                    self.assertIn(name.name, defined[row.module], module)
        left = {module: {row.module for row in rows} for module, rows in drawn.items()}
        while left:
            free = [module for module, needs in left.items() if not needs & set(left)]
            self.assertTrue(free, left)
            for module in free:
                left.pop(module)

    def test_methods_and_values_have_names_of_their_own(self):
        methods = set()
        values = set()
        for name, node in self.nodes():
            if isinstance(node, ast.ClassDef):
                own = [part.name for part in node.body if isinstance(part, ast.FunctionDef)]
                self.assertEqual(len(own), len(set(own)), (name, node.name))
                methods.update(own)
            if isinstance(node, ast.Attribute) and isinstance(node.ctx, ast.Store):
                values.add(node.attr)
                self.assertEqual(node.value.id, "self", (name, node.lineno))
        methods.discard("__init__")
        self.assertEqual(methods & values, set())
        pythons = set()
        for kind in (str, int, list, dict, set, bytes, tuple):
            pythons.update(dir(kind))
        self.assertEqual((methods | values) & pythons, set())
        for name, node in self.nodes():
            if isinstance(node, ast.Attribute) and node.attr not in methods | values | {"__init__"}:
                self.assertIn(node.attr, METHODS, (name, node.lineno))

    def test_classes_are_not_handed_on(self):
        classes = {node.name for _, node in self.nodes() if isinstance(node, ast.ClassDef)}
        for path, tree in self.trees.items():
            fit = set()
            for node in ast.walk(tree):
                if isinstance(node, ast.Call):
                    fit.add(node.func)
                    if isinstance(node.func, ast.Name) and node.func.id == "isinstance":
                        fit.update(ast.walk(node.args[1]))
                    if isinstance(node.func, ast.Attribute):
                        fit.add(node.func.value)
                if isinstance(node, ast.ClassDef):
                    self.assertLessEqual(len(node.bases), 1)
                    fit.update(node.bases)
                if isinstance(node, ast.ExceptHandler):
                    fit.add(node.type)
            for node in ast.walk(tree):
                if isinstance(node, ast.Name) and node.id in classes:
                    self.assertIn(node, fit, (path.name, node.lineno))

    def test_walked_on_the_spot(self):
        walkers = {"zip", "enumerate", "reversed", "range"}
        for path, tree in self.trees.items():
            fit = set()
            for node in ast.walk(tree):
                if isinstance(node, (ast.For, ast.comprehension)):
                    fit.add(node.iter)
                if isinstance(node, ast.Call) and isinstance(node.func, ast.Name):
                    if node.func.id in ("list", "tuple", "dict", "sorted", "sum", "any", "all", "enumerate", "zip"):
                        fit.update(node.args[:1])
            for node in ast.walk(tree):
                if isinstance(node, ast.Call) and node not in fit:
                    if isinstance(node.func, ast.Name):
                        self.assertNotIn(node.func.id, walkers, (path.name, node.lineno))
                    if isinstance(node.func, ast.Attribute):
                        self.assertNotIn(node.func.attr, ("items", "keys", "values"), (path.name, node.lineno))
