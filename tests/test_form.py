"""Holds the package's files against those rules of ../shared/LANGUAGE.md that can be seen file by file."""

import ast
import builtins
import pathlib
import re
import unittest

PACKAGE = pathlib.Path(__file__).resolve().parent.parent / "claimwise"
FILES = sorted(path for path in PACKAGE.rglob("*") if path.is_file() and path.parent.name != "__pycache__")

NODES = """
    Module Expr Constant ImportFrom alias FunctionDef arguments arg Lambda ClassDef Return Assign AugAssign
    If IfExp While For Break Continue Pass Raise Try ExceptHandler Call Attribute Subscript Slice Name Load Store
    List Tuple Dict Set ListComp comprehension JoinedStr FormattedValue BinOp BoolOp UnaryOp Compare And Or Not
    Add Sub Mult FloorDiv Mod Pow BitAnd BitOr BitXor LShift RShift Invert USub UAdd
    Eq NotEq Lt LtE Gt GtE Is IsNot In NotIn
""".split()
OWN_NAMES = """
    len range enumerate zip min max sum abs sorted reversed int str bool list tuple dict set frozenset isinstance
    ord repr any all divmod Exception ValueError TypeError KeyError IndexError LookupError ZeroDivisionError
    ArithmeticError OverflowError RuntimeError NotImplementedError AttributeError StopIteration
""".split()
NEVER = """
    type typing typing_extensions enum Enum IntEnum StrEnum Flag IntFlag Generic Protocol ABC ABCMeta namedtuple
    NamedTuple TypedDict TYPE_CHECKING abstractmethod
""".split()
NEVER_WITHIN = ("dataclass", "overload", "contextmanager")
NEVER_ATTRIBUTES = "register mro elements open input version_info with_traceback add_note format format_map".split()
NEVER_NAMES = NEVER_ATTRIBUTES + """
    attrgetter breakpoint builtins compile copyright credits delattr dir eval exec exit gc getattr globals hasattr
    help id importlib license locals methodcaller os quit setattr super sys vars
""".split()
METHODS = ("__init__", "__eq__", "__repr__", "__str__", "__len__")


def bound_names(tree):
    for node in ast.walk(tree):
        if isinstance(node, (ast.FunctionDef, ast.ClassDef)):
            yield node.name
        elif isinstance(node, ast.arg):
            yield node.arg
        elif isinstance(node, ast.Name) and isinstance(node.ctx, ast.Store):
            yield node.id
        elif isinstance(node, ast.ExceptHandler) and node.name:
            yield node.name


class FormTest(unittest.TestCase):
    def for_each_file(self, check):
        for path in FILES:
            with self.subTest(path.name):
                text = path.read_text(encoding="utf-8")
                check(text, ast.parse(text))

    def test_files(self):
        self.assertIn("__init__.py", [path.name for path in FILES])
        for path in FILES:
            with self.subTest(path.name):
                self.assertEqual(path.parent, PACKAGE)
                self.assertRegex(path.name, r"\A([a-z][a-z0-9_]*|__init__)\.py\Z")
                self.assertNotIn(path.stem, dir(builtins) + NEVER)

    def test_sizes_and_signs(self):
        def check(text, tree):
            self.assertRegex(text, r"\A[\n -~]*\Z")
            rows = text.split("\n")
            self.assertLessEqual(len(rows) - 1, 400)
            self.assertLessEqual(max(map(len, rows)), 120)
            for node in ast.walk(tree):
                if isinstance(node, ast.FunctionDef):
                    self.assertLessEqual(node.end_lineno - node.lineno + 1, 40, node.name)

        self.for_each_file(check)

    def test_words_that_stand_nowhere(self):
        def check(text, tree):
            words = re.findall(r"\w+", text)
            self.assertEqual([word for word in words if word in NEVER], [])
            self.assertEqual([word for word in words if any(part in word for part in NEVER_WITHIN)], [])

        self.for_each_file(check)

    def test_parts_of_the_language(self):
        def check(text, tree):
            kinds = {node.__class__.__name__ for node in ast.walk(tree)}
            self.assertEqual(sorted(kinds - set(NODES)), [])
            for node in ast.walk(tree):
                if isinstance(node, ast.Constant):
                    self.assertIn(node.value.__class__, (int, str, bool, type(None)))
                    self.assertNotIn("%", str(node.value))
                if isinstance(node, (ast.For, ast.While)):
                    self.assertEqual(node.orelse, [])
                if isinstance(node, ast.Try):
                    self.assertEqual(node.finalbody, [])
                if isinstance(node, ast.Assign):
                    self.assertEqual(len(node.targets), 1)
                if isinstance(node, (ast.FunctionDef, ast.ClassDef)):
                    self.assertEqual(node.decorator_list, [])

        self.for_each_file(check)

    def test_imports(self):
        def check(text, tree):
            for node in ast.walk(tree):
                if isinstance(node, ast.ImportFrom):
                    self.assertIn(node, tree.body)
                    self.assertEqual(node.level, 0)
                    self.assertRegex(node.module, r"\Aclaimwise\.[a-z_]+\Z")
                    self.assertTrue((PACKAGE / (node.module.split(".")[1] + ".py")).is_file())

        self.for_each_file(check)

    def test_names(self):
        def check(text, tree):
            for name in bound_names(tree):
                if name not in METHODS:
                    self.assertRegex(name, r"\A[A-Za-z][A-Za-z0-9_]*\Z")
                    self.assertNotIn(name, dir(builtins))
            for node in ast.walk(tree):
                if isinstance(node, ast.Name):
                    self.assertNotIn(node.id, NEVER_NAMES)
                    self.assertFalse(hasattr(builtins, node.id) and node.id not in OWN_NAMES, node.id)
                if isinstance(node, ast.Attribute):
                    self.assertNotIn(node.attr, NEVER_ATTRIBUTES)

        self.for_each_file(check)


if __name__ == "__main__":
    unittest.main()
