"""The package keeps to its small part of Python: those rules that can be seen at a glance."""

import ast
import builtins
import pathlib
import re
import unittest

PACKAGE = pathlib.Path(__file__).resolve().parent.parent / "onechange"

STATEMENTS = (
    ast.Assign, ast.AugAssign, ast.If, ast.While, ast.For, ast.Return, ast.Break, ast.Continue, ast.Pass, ast.Raise,
    ast.Try, ast.Expr, ast.FunctionDef, ast.ClassDef, ast.ImportFrom,
)
BARRED_EXPRESSIONS = (
    ast.SetComp, ast.DictComp, ast.GeneratorExp, ast.NamedExpr, ast.Starred, ast.Yield, ast.YieldFrom, ast.Await,
    ast.Div, ast.MatMult,
)
OWN_NAMES_OF_PYTHON = set(
    "len range enumerate zip min max sum abs sorted reversed int str bool list tuple dict set frozenset isinstance "
    "ord repr any all divmod Exception ValueError TypeError KeyError IndexError LookupError ZeroDivisionError "
    "ArithmeticError OverflowError RuntimeError NotImplementedError AttributeError StopIteration".split()
)
DOUBLE_UNDERSCORED = {"__init__", "__eq__", "__repr__", "__str__", "__len__", "__all__", "__version__"}
METHODS_OF_PYTHON = set(
    "append clear copy count endswith extend find get index insert isalnum isalpha isdigit islower isspace isupper "
    "items join keys ljust lower lstrip partition pop remove replace reverse rfind rjust rpartition rsplit rstrip "
    "setdefault split splitlines startswith strip update upper values zfill bit_length".split()
)
BARRED_WORDS = re.compile(
    r"\b(type|typing|typing_extensions|enum|Enum|IntEnum|StrEnum|Flag|IntFlag|Generic|Protocol|ABC|ABCMeta|namedtuple"
    r"|NamedTuple|TypedDict|TYPE_CHECKING|abstractmethod)\b|dataclass|overload|contextmanager"
)


def sources():
    return sorted(path for path in PACKAGE.rglob("*") if path.is_file() and "__pycache__" not in path.parts)


def nodes(path):
    return list(ast.walk(ast.parse(path.read_text(encoding="utf-8"))))


def bound_names(node):
    if isinstance(node, ast.Name) and not isinstance(node.ctx, ast.Load):
        return [node.id]
    if isinstance(node, ast.arg):
        return [node.arg]
    if isinstance(node, (ast.FunctionDef, ast.ClassDef)):
        return [node.name]
    return []


def own_methods():
    classes = [node for path in sources() for node in nodes(path) if isinstance(node, ast.ClassDef)]
    return {part.name for node in classes for part in node.body if isinstance(part, ast.FunctionDef)}


def own_values():
    found = [node for path in sources() for node in nodes(path) if isinstance(node, ast.Attribute)]
    return {node.attr for node in found if isinstance(node.ctx, ast.Store)}


class LanguageTest(unittest.TestCase):
    def test_files(self):
        self.assertTrue(sources())
        for path in sources():
            with self.subTest(file=path.name):
                self.assertRegex(path.name, r"\A[a-z0-9_]+\.py\Z")

    def test_signs_words_and_size(self):
        for path in sources():
            with self.subTest(file=path.name):
                text = path.read_bytes().decode("utf-8")
                self.assertRegex(text, r"\A[ -~\n]*\Z")
                self.assertIsNone(BARRED_WORDS.search(text))
                rows = text.splitlines()
                self.assertLessEqual(len(rows), 400)
                self.assertLessEqual(max(len(row) for row in rows), 120)
                for node in nodes(path):
                    if isinstance(node, ast.FunctionDef):
                        self.assertLessEqual(node.end_lineno - node.lineno + 1, 40)

    def test_statements_and_expressions(self):
        for path in sources():
            with self.subTest(file=path.name):
                for node in nodes(path):
                    if isinstance(node, ast.stmt):
                        self.assertIsInstance(node, STATEMENTS)
                    self.assertNotIsInstance(node, BARRED_EXPRESSIONS)
                    if isinstance(node, (ast.FunctionDef, ast.ClassDef)):
                        self.assertEqual(node.decorator_list, [])
                    if isinstance(node, (ast.For, ast.While)):
                        self.assertEqual(node.orelse, [])
                    if isinstance(node, ast.Constant):
                        self.assertNotIsInstance(node.value, (float, complex, bytes))

    def test_imports(self):
        for path in sources():
            with self.subTest(file=path.name):
                for node in nodes(path):
                    if isinstance(node, ast.ImportFrom):
                        self.assertEqual(node.level, 0)
                        self.assertRegex(node.module, r"\Aonechange\.[a-z0-9_]+\Z")
                        self.assertNotIn("*", [alias.name for alias in node.names])

    def test_names(self):
        for path in sources():
            with self.subTest(file=path.name):
                for node in nodes(path):
                    for name in bound_names(node):
                        if name not in DOUBLE_UNDERSCORED:
                            self.assertRegex(name, r"\A[A-Za-z][A-Za-z0-9_]*\Z")
                    if isinstance(node, ast.Name) and hasattr(builtins, node.id):
                        self.assertIn(node.id, OWN_NAMES_OF_PYTHON)
                        self.assertIsInstance(node.ctx, ast.Load)

    def test_methods_and_values(self):
        self.assertEqual(own_methods() & own_values(), set())
        python_has = {name for kind in (str, int, list, dict, set, bytes) for name in dir(kind)}
        self.assertEqual((own_methods() - DOUBLE_UNDERSCORED) & python_has, set())
        self.assertEqual(own_values() & python_has, set())
        for path in sources():
            with self.subTest(file=path.name):
                for node in nodes(path):
                    if isinstance(node, ast.Attribute):
                        self.assertIn(node.attr, METHODS_OF_PYTHON | own_methods() | own_values())

    def test_locals_are_not_called_like_classes_or_imports(self):
        for path in sources():
            with self.subTest(file=path.name):
                imports = [node for node in nodes(path) if isinstance(node, ast.ImportFrom)]
                taken = {alias.asname or alias.name for node in imports for alias in node.names}
                taken |= {node.name for node in nodes(path) if isinstance(node, ast.ClassDef)}
                for node in nodes(path):
                    if isinstance(node, (ast.Name, ast.arg)):
                        self.assertEqual(set(bound_names(node)) & (taken | set(dir(builtins))), set())

    def test_powers_texts_and_is(self):
        for path in sources():
            with self.subTest(file=path.name):
                for node in nodes(path):
                    if isinstance(node, ast.BinOp) and isinstance(node.op, ast.Pow):
                        self.assertIsInstance(node.right, ast.Constant)
                    if isinstance(node, ast.Constant) and isinstance(node.value, str):
                        self.assertNotIn("%", node.value)
                    if isinstance(node, ast.Compare):
                        for sign, beside in zip(node.ops, node.comparators):
                            if isinstance(sign, (ast.Is, ast.IsNot)):
                                self.assertIsInstance(beside, ast.Constant)


if __name__ == "__main__":
    unittest.main()
