"""What can be told by machine, and simply, of the rules of LANGUAGE.md; the rest is for the reader's eye."""

import ast
import builtins
import pathlib
import re
import unittest

PACKAGE = pathlib.Path(__file__).resolve().parent.parent / "scaleyard"

NODES = set("""Module FunctionDef arguments arg ClassDef Lambda Assign AugAssign AnnAssign If While For Return Break
Continue Pass Raise Try ExceptHandler Expr Import ImportFrom alias Constant Name Load Store Tuple List Dict Set BinOp
Add Sub Mult FloorDiv Mod Pow BitAnd BitOr BitXor LShift RShift UnaryOp USub UAdd Invert Not BoolOp And Or Compare Eq
NotEq Lt LtE Gt GtE Is IsNot In NotIn IfExp Call keyword Attribute Subscript Slice ListComp comprehension JoinedStr
FormattedValue""".split())

OWN_NAMES = set("""len range enumerate zip min max sum abs sorted reversed int str bool list tuple dict set frozenset
isinstance ord repr any all divmod Exception ValueError TypeError KeyError IndexError LookupError ZeroDivisionError
ArithmeticError OverflowError RuntimeError NotImplementedError AttributeError StopIteration""".split())

METHODS = set("__init__ __eq__ __repr__ __str__ __len__".split())

OWN_METHODS = set("""append clear copy count endswith extend find get index insert isalnum isalpha isdigit islower
isspace isupper items join keys ljust lower lstrip partition pop remove replace reverse rfind rjust rpartition rsplit
rstrip setdefault split splitlines startswith strip update upper values zfill bit_length""".split())

NAMES_LEFT_OUT = set("""register mro elements open input version_info with_traceback add_note attrgetter breakpoint
builtins compile copyright credits delattr dir eval exec exit gc getattr globals hasattr help id importlib license
locals methodcaller os quit setattr super type vars sys""".split())

# What is walked on the spot, and what may walk it.
WALKED = set("zip enumerate reversed range".split())
WALKED_METHODS = set("items keys values".split())
WALKERS = set("list tuple dict sorted sum any all enumerate zip".split())
KEYWORDS = {"sorted": {"key", "reverse"}, "min": {"key", "default"}, "max": {"key", "default"}, "sum": {"start"},
            "enumerate": {"start"}, "zip": {"strict"}}

# Where Python's ValueError is taken, nothing but one of these is called.
CALLED_AS_IT_FAILS = set("int str index remove".split())

WORDS_LEFT_OUT = re.compile(
    r"\b(type|typing|typing_extensions|enum|Enum|IntEnum|StrEnum|Flag|IntFlag|Generic|Protocol|ABC|ABCMeta|namedtuple"
    r"|NamedTuple|TypedDict|TYPE_CHECKING|abstractmethod)\b|dataclass|overload|contextmanager")


def bound_names(tree):
    for node in ast.walk(tree):
        if isinstance(node, (ast.FunctionDef, ast.ClassDef)):
            yield node.name
        elif isinstance(node, ast.arg):
            yield node.arg
        elif isinstance(node, ast.Name) and isinstance(node.ctx, ast.Store):
            yield node.id
        elif isinstance(node, ast.ExceptHandler) and node.name:
            yield node.name


def top_names(tree):
    """The names that a file itself gives a meaning at its top; what it imports is not among them."""
    for node in tree.body:
        if isinstance(node, (ast.FunctionDef, ast.ClassDef)):
            yield node.name
        elif isinstance(node, ast.Assign):
            yield node.targets[0].id


def called_names(node):
    calls = [part.func for part in ast.walk(node) if isinstance(part, ast.Call)]
    return [func.id if isinstance(func, ast.Name) else func.attr for func in calls]


def is_walked(node):
    if not isinstance(node, ast.Call):
        return False
    if isinstance(node.func, ast.Name):
        return node.func.id in WALKED
    return isinstance(node.func, ast.Attribute) and node.func.attr in WALKED_METHODS


def walked_on_the_spot(tree):
    for node in ast.walk(tree):
        if isinstance(node, (ast.For, ast.comprehension)):
            yield node.iter
        elif isinstance(node, ast.Call) and isinstance(node.func, ast.Name) and node.args:
            if node.func.id in WALKERS or (node.func.id in ("min", "max") and len(node.args) == 1):
                yield node.args[0]
            if node.func.id == "zip":
                yield from node.args


class LanguageTest(unittest.TestCase):
    def each(self):
        texts = [(path.name, path.read_bytes().decode("ascii")) for path in sorted(PACKAGE.rglob("*.py"))]
        self.assertTrue(texts)
        return [(name, text, ast.parse(text)) for name, text in texts]

    def test_files(self):
        for path in PACKAGE.rglob("*"):
            if "__pycache__" not in path.parts and path.is_file():
                self.assertRegex(path.name, r"^[a-z0-9_]+\.py$")

    def test_size_and_signs(self):
        for name, text, tree in self.each():
            lines = text.split("\n")
            self.assertLessEqual(len(lines), 401, name)
            self.assertLessEqual(max(len(line) for line in lines), 120, name)
            self.assertRegex(text, r"^[ -~\n]*$", name)
            for node in ast.walk(tree):
                if isinstance(node, ast.FunctionDef):
                    self.assertLessEqual(node.end_lineno - node.lineno + 1, 40, (name, node.name))

    def test_words_left_out(self):
        for name, text, tree in self.each():
            self.assertIsNone(WORDS_LEFT_OUT.search(text), name)

    def test_nodes(self):
        for name, text, tree in self.each():
            self.assertEqual({node.__class__.__name__ for node in ast.walk(tree)} - NODES, set(), name)
            for node in ast.walk(tree):
                if isinstance(node, ast.Constant):
                    self.assertIsInstance(node.value, (int, str, bool, None.__class__))
                    self.assertFalse(isinstance(node.value, str) and "%" in node.value)
                if isinstance(node, ast.Assign):
                    self.assertEqual(len(node.targets), 1)
                if isinstance(node, (ast.FunctionDef, ast.ClassDef)):
                    self.assertEqual(node.decorator_list, [])
                if isinstance(node, ast.arguments):
                    self.assertEqual((node.vararg, node.kwarg, node.kwonlyargs, node.posonlyargs), (None, None, [], []))
                if isinstance(node, (ast.For, ast.While)):
                    self.assertEqual(node.orelse, [])
                if isinstance(node, ast.Try):
                    self.assertEqual(node.finalbody, [])

    def test_imports(self):
        for name, text, tree in self.each():
            for node in ast.walk(tree):
                self.assertNotIsInstance(node, ast.Import)
                if isinstance(node, ast.ImportFrom):
                    self.assertIn(node, tree.body)
                    self.assertEqual(node.level, 0)
                    self.assertRegex(node.module, r"^scaleyard\.[a-z0-9_]+$")
                    self.assertNotIn("*", [alias.name for alias in node.names])

    def test_imports_draw_from_where_a_name_is_defined_and_never_in_a_ring(self):
        drawn = {}
        defined = {}
        for name, text, tree in self.each():
            module = "scaleyard." + name[:-len(".py")]
            defined[module] = list(top_names(tree))
            self.assertEqual(len(defined[module]), len(set(defined[module])), name)
            drawn[module] = [node for node in tree.body if isinstance(node, ast.ImportFrom)]
        for nodes in drawn.values():
            for node in nodes:
                self.assertEqual({alias.name for alias in node.names} - set(defined[node.module]), set(), node.module)
        left = dict(drawn)
        while left:
            free = [module for module in left if not any(node.module in left for node in left[module])]
            self.assertTrue(free, sorted(left))
            for module in free:
                del left[module]

    def test_methods_of_python_s_own_values(self):
        for name, text, tree in self.each():
            self.assertFalse([node for node in ast.walk(tree) if isinstance(node, ast.Attribute)
                              and node.attr not in OWN_METHODS], name)

    def test_is_stands_beside_none_and_truths_alone(self):
        for name, text, tree in self.each():
            for node in ast.walk(tree):
                if isinstance(node, ast.Compare) and isinstance(node.ops[0], (ast.Is, ast.IsNot)):
                    self.assertIn(repr(getattr(node.comparators[0], "value", 0)), ("None", "True", "False"), name)

    def test_value_errors_of_python_are_taken_round_one_call_alone(self):
        for name, text, tree in self.each():
            for node in ast.walk(tree):
                if isinstance(node, ast.Try) and "ValueError" in [ast.unparse(way.type) for way in node.handlers]:
                    self.assertEqual((len(node.body), len(called_names(node.body[0]))), (1, 1), name)
                    self.assertIn(called_names(node.body[0])[0], CALLED_AS_IT_FAILS, name)

    def test_the_top_of_a_file(self):
        for name, text, tree in self.each():
            self.assertIsNotNone(ast.get_docstring(tree), name)
            for node in tree.body[1:]:
                self.assertIsInstance(node, (ast.ImportFrom, ast.FunctionDef, ast.ClassDef, ast.Assign), name)
                if isinstance(node, ast.Assign):
                    ast.literal_eval(node.value)

    def test_statements(self):
        for name, text, tree in self.each():
            for node in ast.walk(tree):
                self.assertNotIsInstance(node, ast.AnnAssign, name)
                if isinstance(node, ast.Expr) and node is not tree.body[0]:
                    self.assertIsInstance(node.value, ast.Call, name)
                if isinstance(node, ast.FunctionDef):
                    self.assertIsNone(node.returns, name)
                if isinstance(node, ast.arg):
                    self.assertIsNone(node.annotation, name)

    def test_expressions(self):
        for name, text, tree in self.each():
            for node in ast.walk(tree):
                if isinstance(node, ast.ListComp):
                    self.assertEqual(len(node.generators), 1, name)
                    self.assertLessEqual(len(node.generators[0].ifs), 1, name)
                if isinstance(node, (ast.BinOp, ast.AugAssign)) and isinstance(node.op, ast.Pow):
                    self.assertIn(getattr(getattr(node, "right", None), "value", None), range(65), name)

    def test_what_is_walked_on_the_spot(self):
        for name, text, tree in self.each():
            walked = list(walked_on_the_spot(tree))
            self.assertEqual([ast.unparse(node) for node in ast.walk(tree) if is_walked(node) and node not in walked],
                             [], name)

    def test_python_s_own_are_called_and_not_kept(self):
        for name, text, tree in self.each():
            called = [node.func for node in ast.walk(tree) if isinstance(node, ast.Call)]
            beside = [part for node in ast.walk(tree) if isinstance(node, (ast.Call, ast.ClassDef, ast.ExceptHandler))
                      and ast.unparse(getattr(node, "func", node)).startswith(("isinstance", "class", "except"))
                      for part in ast.walk(node)]
            for node in ast.walk(tree):
                if isinstance(node, ast.Name) and node.id in OWN_NAMES:
                    self.assertTrue(node in called or node in beside, (name, node.id))
                if isinstance(node, ast.Call) and isinstance(node.func, ast.Name) and node.func.id in OWN_NAMES:
                    words = {keyword.arg for keyword in node.keywords}
                    self.assertEqual(words - KEYWORDS.get(node.func.id, set()), set(), name)

    def test_no_local_is_called_like_an_import_or_a_class(self):
        for name, text, tree in self.each():
            drawn = [alias.name for node in tree.body if isinstance(node, ast.ImportFrom) for alias in node.names]
            classes = [node.name for node in tree.body if isinstance(node, ast.ClassDef)]
            local = [word for node in tree.body if isinstance(node, ast.FunctionDef)
                     for word in bound_names(node) if word != node.name]
            self.assertEqual(set(local) & set(drawn + classes), set(), name)
            self.assertEqual(set(top_names(tree)) & set(drawn), set(), name)

    def test_names(self):
        builtin_names = set(dir(builtins))
        for name, text, tree in self.each():
            bound = set(bound_names(tree))
            self.assertEqual(bound & builtin_names, set(), name)
            self.assertEqual([word for word in sorted(bound - METHODS) if word.startswith("_")], [], name)
            used = {node.id for node in ast.walk(tree) if isinstance(node, ast.Name)}
            self.assertEqual((used | bound) & NAMES_LEFT_OUT, set(), name)
            self.assertEqual((used & builtin_names) - OWN_NAMES, set(), name)


if __name__ == "__main__":
    unittest.main()
