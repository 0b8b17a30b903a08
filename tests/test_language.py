"""Holds the package's files to those rules of LANGUAGE.md that can be seen from the form of the code."""

import ast
import builtins
import re
import unittest
from pathlib import Path

PACKAGE = Path(__file__).resolve().parent.parent / "closehaul"
FILES = sorted(path for path in PACKAGE.rglob("*") if path.is_file() and "__pycache__" not in path.parts)

OWN_NAMES = set("""len range enumerate zip min max sum abs sorted reversed int str bool list tuple dict set frozenset
isinstance ord repr any all divmod Exception ValueError TypeError KeyError IndexError LookupError ZeroDivisionError
ArithmeticError OverflowError RuntimeError NotImplementedError AttributeError StopIteration""".split())
METHODS = set("""append clear copy count endswith extend find get index insert isalnum isalpha isdigit islower isspace
isupper items join keys ljust lower lstrip partition pop remove replace reverse rfind rjust rpartition rsplit rstrip
setdefault split splitlines startswith strip update upper values zfill bit_length""".split())
TWO_UNDERSCORES = ("__init__", "__eq__", "__repr__", "__str__", "__len__")
LOST_WORDS = re.compile(r"\b(type|typing|typing_extensions|enum|Enum|IntEnum|StrEnum|Flag|IntFlag|Generic|Protocol|ABC|"
                        r"ABCMeta|namedtuple|NamedTuple|TypedDict|TYPE_CHECKING|abstractmethod)\b|"
                        r"dataclass|overload|contextmanager")
LOST_NODES = (ast.With, ast.Match, ast.Delete, ast.Global, ast.Nonlocal, ast.Assert, ast.Yield, ast.YieldFrom, ast.Await,
              ast.AsyncFunctionDef, ast.AsyncFor, ast.AsyncWith, ast.GeneratorExp, ast.SetComp, ast.DictComp,
              ast.NamedExpr, ast.Starred, ast.Div, ast.MatMult, ast.Import)


def nodes_of(path, *kinds):
    return [node for node in ast.walk(ast.parse(path.read_text())) if isinstance(node, kinds)]


def locals_bound(tree):
    for node in ast.walk(tree):
        if isinstance(node, ast.arg):
            yield node.arg
        elif isinstance(node, ast.Name) and isinstance(node.ctx, ast.Store):
            yield node.id


def names_bound(tree):
    yield from locals_bound(tree)
    for node in ast.walk(tree):
        if isinstance(node, (ast.FunctionDef, ast.ClassDef)):
            yield node.name
        elif isinstance(node, ast.Attribute) and isinstance(node.ctx, ast.Store):
            yield node.attr


def is_docstring(node):
    return isinstance(node, ast.Expr) and isinstance(node.value, ast.Constant) and isinstance(node.value.value, str)


class Language(unittest.TestCase):
    def each(self, check):
        self.assertTrue(FILES)
        for path in FILES:
            with self.subTest(file=path.name):
                check(path)

    def test_files(self):
        """L1, L10, L14, L17"""
        self.assertTrue((PACKAGE / "__init__.py").is_file())

        def check(path):
            self.assertRegex(path.name, r"^[a-z0-9_]+\.py$")
            self.assertNotIn(path.stem, dir(builtins))
            lines = path.read_bytes().decode("ascii").split("\n")
            self.assertLessEqual(len(lines), 401)
            for line in lines:
                self.assertLessEqual(len(line), 120)
                self.assertRegex(line, r"^[ -~]*$")
                self.assertNotRegex(line, LOST_WORDS)

        self.each(check)

    def test_imports(self):
        """L2, L16"""
        def check(path):
            for node in nodes_of(path, ast.ImportFrom):
                self.assertEqual(node.level, 0)
                self.assertRegex(node.module, r"^closehaul\.[a-z_]+$")
                source = PACKAGE / (node.module.split(".")[1] + ".py")
                top = ast.parse(source.read_text()).body
                defined = [name for part in top if not isinstance(part, ast.ImportFrom) for name in names_bound(part)]
                for alias in node.names:
                    self.assertIn(alias.name, defined)

        self.each(check)

    def test_tops(self):
        """L3, L15"""
        def check(path):
            body = ast.parse(path.read_text()).body
            if body and is_docstring(body[0]):
                body = body[1:]
            bound = []
            for node in body:
                self.assertIsInstance(node, (ast.ImportFrom, ast.FunctionDef, ast.ClassDef, ast.Assign))
                if isinstance(node, ast.Assign):
                    self.assertIsInstance(node.value, (ast.Constant, ast.List, ast.Tuple, ast.Dict, ast.UnaryOp))
                    bound.append(node.targets[0].id)
                elif isinstance(node, ast.ImportFrom):
                    bound.extend(alias.asname or alias.name for alias in node.names)
                else:
                    bound.append(node.name)
            self.assertEqual(len(bound), len(set(bound)))

        self.each(check)

    def test_functions_and_classes(self):
        """L4, L5, L10, L21, L28"""
        def check(path):
            for node in nodes_of(path, ast.FunctionDef):
                self.assertLessEqual(node.end_lineno - node.lineno + 1, 40, node.name)
                self.assertEqual(node.decorator_list, [])
                self.assertEqual((node.args.vararg, node.args.kwarg, node.args.kwonlyargs), (None, None, []))
                self.assertEqual(node.args.posonlyargs, [])
            for node in nodes_of(path, ast.ClassDef):
                self.assertEqual((node.decorator_list, node.keywords), ([], []))
                self.assertLessEqual(len(node.bases), 1)
                for part in node.body:
                    self.assertIsInstance(part, (ast.FunctionDef, ast.Pass))

        self.each(check)

    def test_statements(self):
        """L6, L7, L19, L20"""
        def check(path):
            self.assertEqual([ast.dump(node) for node in nodes_of(path, *LOST_NODES)], [])
            for node in nodes_of(path, ast.For, ast.While):
                self.assertEqual(node.orelse, [])
            for node in nodes_of(path, ast.Assign):
                self.assertEqual(len(node.targets), 1)
            for node in nodes_of(path, ast.Try):
                self.assertEqual(node.finalbody, [])
                for handler in node.handlers:
                    self.assertIsNotNone(handler.type)
            for node in nodes_of(path, ast.ListComp):
                self.assertEqual(len(node.generators), 1)
                self.assertLessEqual(len(node.generators[0].ifs), 1)
            for node in nodes_of(path, ast.Compare):
                for sign, value in zip(node.ops, node.comparators):
                    if isinstance(sign, (ast.Is, ast.IsNot)):
                        self.assertIn(ast.dump(value), [f"Constant(value={word})" for word in (None, True, False)])

        self.each(check)

    def test_names(self):
        """L8, L12, L15, L25"""
        def check(path):
            tree = ast.parse(path.read_text())
            bound = set(names_bound(tree))
            for name in bound:
                self.assertTrue(name in TWO_UNDERSCORES or not name.startswith("_"), name)
            imported = {alias.asname or alias.name for node in nodes_of(path, ast.ImportFrom) for alias in node.names}
            classes = {node.name for node in nodes_of(path, ast.ClassDef)}
            for name in locals_bound(tree):
                self.assertNotIn(name, dir(builtins))
                self.assertNotIn(name, imported | classes)
            bound.update(imported)
            for node in nodes_of(path, ast.Name):
                self.assertTrue(node.id in bound or node.id in OWN_NAMES, node.id)

        self.each(check)

    def test_methods(self):
        """L25, L26"""
        own = {node.name for path in FILES for node in nodes_of(path, ast.FunctionDef)}

        def check(path):
            for node in nodes_of(path, ast.Call):
                if isinstance(node.func, ast.Attribute):
                    self.assertIn(node.func.attr, METHODS | own)

        self.each(check)

    def test_values(self):
        """L7, L27"""
        def check(path):
            for node in nodes_of(path, ast.Constant):
                self.assertNotIsInstance(node.value, (float, bytes, complex))
                if isinstance(node.value, str):
                    self.assertNotIn("%", node.value)
                    self.assertRegex(node.value, r"^[ -~\n\t]*$")
            for node in nodes_of(path, ast.BinOp):
                if isinstance(node.op, ast.Pow):
                    self.assertIsInstance(node.right, ast.Constant)
                    self.assertIn(node.right.value, range(65))

        self.each(check)


if __name__ == "__main__":
    unittest.main()
