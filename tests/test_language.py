"""What can be told by machine, and simply, of the rules of LANGUAGE.md; the rest is for the reader's eye."""

import ast
import builtins
import pathlib
import re
import unittest

PACKAGE = pathlib.Path(__file__).resolve().parent.parent / "scaleyard"

NODES = set("""Module FunctionDef arguments arg ClassDef Lambda Assign AugAssign AnnAssign If While For Return Break
Continue Pass Raise Try ExceptHandler Expr Import ImportFrom alias Constant Name Load Store Tuple List Dict Set BinOp
Add Sub Mult FloorDiv Mod Pow BitAnd BitOr BitXor LShift RShift UnaryOp USub UAdd Invert Not BoolOp And Or Compare Eq
NotEq Lt LtE Gt GtE Is IsNot In NotIn IfExp Call keyword Attribute Subscript Slice ListComp comprehension JoinedStr
FormattedValue""".split())

OWN_NAMES = set("""len range enumerate zip min max sum abs sorted reversed int str bool list tuple dict set frozenset
isinstance ord repr any all divmod Exception ValueError TypeError KeyError IndexError LookupError ZeroDivisionError
ArithmeticError OverflowError RuntimeError NotImplementedError AttributeError StopIteration""".split())

METHODS = set("__init__ __eq__ __repr__ __str__ __len__".split())

WORDS_LEFT_OUT = re.compile(
    r"\b(type|typing|typing_extensions|enum|Enum|IntEnum|StrEnum|Flag|IntFlag|Generic|Protocol|ABC|ABCMeta|namedtuple"
    r"|NamedTuple|TypedDict|TYPE_CHECKING|abstractmethod)\b|dataclass|overload|contextmanager")


def bound_names(tree):
    for node in ast.walk(tree):
        if isinstance(node, (ast.FunctionDef, ast.ClassDef)):
            yield node.name
        elif isinstance(node, ast.arg):
            yield node.arg
        elif isinstance(node, ast.Name) and isinstance(node.ctx, ast.Store):
            yield node.id
        elif isinstance(node, ast.ExceptHandler) and node.name:
            yield node.name


class LanguageTest(unittest.TestCase):
    def each(self):
        texts = [(path.name, path.read_bytes().decode("ascii")) for path in sorted(PACKAGE.rglob("*.py"))]
        self.assertTrue(texts)
        return [(name, text, ast.parse(text)) for name, text in texts]

    def test_files(self):
        for path in PACKAGE.rglob("*"):
            if "__pycache__" not in path.parts and path.is_file():
                self.assertRegex(path.name, r"^[a-z0-9_]+\.py$")

    def test_size_and_signs(self):
        for name, text, tree in self.each():
            lines = text.split("\n")
            self.assertLessEqual(len(lines), 401, name)
            self.assertLessEqual(max(len(line) for line in lines), 120, name)
            self.assertRegex(text, r"^[ -~\n]*$", name)
            for node in ast.walk(tree):
                if isinstance(node, ast.FunctionDef):
                    self.assertLessEqual(node.end_lineno - node.lineno + 1, 40, (name, node.name))

    def test_words_left_out(self):
        for name, text, tree in self.each():
            self.assertIsNone(WORDS_LEFT_OUT.search(text), name)

    def test_nodes(self):
        for name, text, tree in self.each():
            self.assertEqual({node.__class__.__name__ for node in ast.walk(tree)} - NODES, set(), name)
            for node in ast.walk(tree):
                if isinstance(node, ast.Constant):
                    self.assertIsInstance(node.value, (int, str, bool, None.__class__))
                    self.assertFalse(isinstance(node.value, str) and "%" in node.value)
                if isinstance(node, ast.Assign):
                    self.assertEqual(len(node.targets), 1)
                if isinstance(node, (ast.FunctionDef, ast.ClassDef)):
                    self.assertEqual(node.decorator_list, [])
                if isinstance(node, ast.arguments):
                    self.assertEqual((node.vararg, node.kwarg, node.kwonlyargs, node.posonlyargs), (None, None, [], []))
                if isinstance(node, (ast.For, ast.While)):
                    self.assertEqual(node.orelse, [])
                if isinstance(node, ast.Try):
                    self.assertEqual(node.finalbody, [])

    def test_imports(self):
        for name, text, tree in self.each():
            for node in ast.walk(tree):
                self.assertNotIsInstance(node, ast.Import)
                if isinstance(node, ast.ImportFrom):
                    self.assertIn(node, tree.body)
                    self.assertEqual(node.level, 0)
                    self.assertRegex(node.module, r"^scaleyard\.[a-z0-9_]+$")
                    self.assertNotIn("*", [alias.name for alias in node.names])

    def test_names(self):
        builtin_names = set(dir(builtins))
        for name, text, tree in self.each():
            bound = set(bound_names(tree))
            self.assertEqual(bound & builtin_names, set(), name)
            self.assertEqual([word for word in sorted(bound - METHODS) if word.startswith("_")], [], name)
            used = {node.id for node in ast.walk(tree) if isinstance(node, ast.Name)}
            self.assertEqual((used & builtin_names) - OWN_NAMES, set(), name)


if __name__ == "__main__":
    unittest.main()
