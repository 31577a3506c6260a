"""Holds the package's files against those rules of ../shared/LANGUAGE.md that can be seen file by file."""

import ast
import builtins
import pathlib
import re
import unittest

PACKAGE = pathlib.Path(__file__).resolve().parent.parent / "claimwise"
FILES = sorted(path for path in PACKAGE.rglob("*") if path.is_file() and path.parent.name != "__pycache__")

NODES = """
    Module Expr Constant ImportFrom alias FunctionDef arguments arg Lambda ClassDef Return Assign AugAssign
    If IfExp While For Break Continue Pass Raise Try ExceptHandler Call Attribute Subscript Slice Name Load Store
    List Tuple Dict Set ListComp comprehension JoinedStr FormattedValue BinOp BoolOp UnaryOp Compare And Or Not
    Add Sub Mult FloorDiv Mod Pow BitAnd BitOr BitXor LShift RShift Invert USub UAdd
    Eq NotEq Lt LtE Gt GtE Is IsNot In NotIn keyword
""".split()
OWN_NAMES = """
    len range enumerate zip min max sum abs sorted reversed int str bool list tuple dict set frozenset isinstance
    ord repr any all divmod Exception ValueError TypeError KeyError IndexError LookupError ZeroDivisionError
    ArithmeticError OverflowError RuntimeError NotImplementedError AttributeError StopIteration
""".split()
NEVER = """
    type typing typing_extensions enum Enum IntEnum StrEnum Flag IntFlag Generic Protocol ABC ABCMeta namedtuple
    NamedTuple TypedDict TYPE_CHECKING abstractmethod
""".split()
NEVER_WITHIN = ("dataclass", "overload", "contextmanager")
NEVER_ATTRIBUTES = "register mro elements open input version_info with_traceback add_note format format_map".split()
NEVER_NAMES = NEVER_ATTRIBUTES + """
    attrgetter breakpoint builtins compile copyright credits delattr dir eval exec exit gc getattr globals hasattr
    help id importlib license locals methodcaller os quit setattr super sys vars
""".split()
METHODS = ("__init__", "__eq__", "__repr__", "__str__", "__len__")
CALLED_METHODS = """
    append clear copy count endswith extend find get index insert isalnum isalpha isdigit islower isspace isupper items
    join keys ljust lower lstrip partition pop remove replace reverse rfind rjust rpartition rsplit rstrip setdefault
    split splitlines startswith strip update upper values zfill bit_length
""".split()
KEYWORDS = {
    "sorted": ("key", "reverse"), "min": ("key", "default"), "max": ("key", "default"), "sum": ("start",),
    "enumerate": ("start",), "zip": ("strict",),
}
WALKED = ("zip", "enumerate", "reversed", "range")
WALKERS = ("list", "tuple", "dict", "sorted", "sum", "any", "all", "enumerate", "zip", "min", "max")


def bound_names(tree):
    for node in ast.walk(tree):
        if isinstance(node, (ast.FunctionDef, ast.ClassDef)):
            yield node.name
        elif isinstance(node, ast.arg):
            yield node.arg
        elif isinstance(node, ast.Name) and isinstance(node.ctx, ast.Store):
            yield node.id
        elif isinstance(node, ast.ExceptHandler) and node.name:
            yield node.name


def defined_names(tree):
    for node in tree.body:
        if isinstance(node, (ast.FunctionDef, ast.ClassDef)):
            yield node.name
        elif isinstance(node, ast.Assign):
            yield node.targets[0].id


def drawn_names(tree):
    for node in tree.body:
        if isinstance(node, ast.ImportFrom):
            yield from [found.name for found in node.names]


def methods_of(tree):
    for node in tree.body:
        if isinstance(node, ast.ClassDef):
            yield from [inner.name for inner in node.body if isinstance(inner, ast.FunctionDef)]


def trees():
    return [ast.parse(path.read_text(encoding="utf-8")) for path in FILES]


class FormTest(unittest.TestCase):
    def for_each_file(self, check):
        for path in FILES:
            with self.subTest(path.name):
                text = path.read_text(encoding="utf-8")
                check(text, ast.parse(text))

    def test_files(self):
        self.assertIn("__init__.py", [path.name for path in FILES])
        for path in FILES:
            with self.subTest(path.name):
                self.assertEqual(path.parent, PACKAGE)
                self.assertRegex(path.name, r"\A([a-z][a-z0-9_]*|__init__)\.py\Z")
                self.assertNotIn(path.stem, dir(builtins) + NEVER)

    def test_sizes_and_signs(self):
        def check(text, tree):
            self.assertRegex(text, r"\A[\n -~]*\Z")
            rows = text.split("\n")
            self.assertLessEqual(len(rows) - 1, 400)
            self.assertLessEqual(max(map(len, rows)), 120)
            for node in ast.walk(tree):
                if isinstance(node, ast.FunctionDef):
                    self.assertLessEqual(node.end_lineno - node.lineno + 1, 40, node.name)

        self.for_each_file(check)

    def test_words_that_stand_nowhere(self):
        def check(text, tree):
            words = re.findall(r"\w+", text)
            self.assertEqual([word for word in words if word in NEVER], [])
            self.assertEqual([word for word in words if any(part in word for part in NEVER_WITHIN)], [])

        self.for_each_file(check)

    def test_parts_of_the_language(self):
        def check(text, tree):
            kinds = {node.__class__.__name__ for node in ast.walk(tree)}
            self.assertEqual(sorted(kinds - set(NODES)), [])
            for node in ast.walk(tree):
                if isinstance(node, ast.Constant):
                    self.assertIn(node.value.__class__, (int, str, bool, type(None)))
                    self.assertNotIn("%", str(node.value))
                if isinstance(node, (ast.For, ast.While)):
                    self.assertEqual(node.orelse, [])
                if isinstance(node, ast.Try):
                    self.assertEqual(node.finalbody, [])
                if isinstance(node, ast.Assign):
                    self.assertEqual(len(node.targets), 1)
                if isinstance(node, (ast.FunctionDef, ast.ClassDef)):
                    self.assertEqual(node.decorator_list, [])

        self.for_each_file(check)

    def test_imports(self):
        def check(text, tree):
            for node in ast.walk(tree):
                if isinstance(node, ast.ImportFrom):
                    self.assertIn(node, tree.body)
                    self.assertEqual(node.level, 0)
                    self.assertRegex(node.module, r"\Aclaimwise\.[a-z_]+\Z")
                    self.assertTrue((PACKAGE / (node.module.split(".")[1] + ".py")).is_file())

        self.for_each_file(check)

    def test_names_drawn_from_the_file_that_defines_them(self):
        def check(text, tree):
            for node in tree.body:
                if isinstance(node, ast.ImportFrom):
                    source = ast.parse((PACKAGE / (node.module.split(".")[1] + ".py")).read_text(encoding="utf-8"))
                    for drawn in node.names:
                        self.assertIn(drawn.name, list(defined_names(source)))
                        self.assertIsNone(drawn.asname)

        self.for_each_file(check)

    def test_no_two_files_draw_from_one_another(self):
        draws = {}
        for path in FILES:
            tree = ast.parse(path.read_text(encoding="utf-8"))
            draws[path.stem] = {node.module.split(".")[1] for node in tree.body if isinstance(node, ast.ImportFrom)}
        while draws:
            free = [name for name in draws if not draws[name] & set(draws)]
            self.assertNotEqual(free, [], draws)
            for name in free:
                del draws[name]

    def test_each_name_once(self):
        def check(text, tree):
            drawn = list(drawn_names(tree))
            names = drawn + list(defined_names(tree))
            self.assertEqual(len(set(names)), len(names))
            classes = [node.name for node in tree.body if isinstance(node, ast.ClassDef)]
            for function in ast.walk(tree):
                if isinstance(function, ast.FunctionDef):
                    inner = list(bound_names(ast.Module(function.body, []))) + [found.arg for found in function.args.args]
                    self.assertEqual([name for name in inner if name in drawn + classes], [], function.name)

        self.for_each_file(check)

    def test_calls(self):
        methods = CALLED_METHODS + [name for tree in trees() for name in methods_of(tree)]

        def check(text, tree):
            for node in ast.walk(tree):
                if isinstance(node, ast.Call):
                    name = node.func.id if isinstance(node.func, ast.Name) else ""
                    for word in node.keywords:
                        self.assertIn(word.arg, KEYWORDS.get(name, ()))
                    if isinstance(node.func, ast.Attribute):
                        self.assertIn(node.func.attr, methods)

        self.for_each_file(check)

    def test_walked_at_once(self):
        def check(text, tree):
            good = []
            for node in ast.walk(tree):
                if isinstance(node, (ast.For, ast.comprehension)):
                    good.append(node.iter)
                if isinstance(node, ast.Call) and isinstance(node.func, ast.Name) and node.func.id in WALKERS:
                    good += node.args[:1]
            for node in ast.walk(tree):
                if isinstance(node, ast.Call) and isinstance(node.func, ast.Name) and node.func.id in WALKED:
                    self.assertIn(node, good, ast.unparse(node))

        self.for_each_file(check)

    def test_is_and_inserted_names(self):
        def check(text, tree):
            for node in ast.walk(tree):
                if isinstance(node, ast.Compare):
                    for sign, other in zip(node.ops, node.comparators):
                        if isinstance(sign, (ast.Is, ast.IsNot)):
                            self.assertIn(ast.unparse(other), ("None", "True", "False"))
                if isinstance(node, ast.FormattedValue):
                    self.assertIsInstance(node.value, ast.Name)
                    self.assertIsNone(node.format_spec)
                if isinstance(node, (ast.ListComp, ast.comprehension)):
                    self.assertLessEqual(len(getattr(node, "generators", [])), 1)
                    self.assertLessEqual(len(getattr(node, "ifs", [])), 1)

        self.for_each_file(check)

    def test_no_name_is_a_method_and_a_value(self):
        methods = {name for tree in trees() for name in methods_of(tree)}
        nodes = [node for tree in trees() for node in ast.walk(tree) if isinstance(node, ast.Attribute)]
        self.assertEqual(methods & {node.attr for node in nodes if isinstance(node.ctx, ast.Store)}, set())

    def test_names(self):
        def check(text, tree):
            for name in bound_names(tree):
                if name not in METHODS:
                    self.assertRegex(name, r"\A[A-Za-z][A-Za-z0-9_]*\Z")
                    self.assertNotIn(name, dir(builtins))
            for node in ast.walk(tree):
                if isinstance(node, ast.Name):
                    self.assertNotIn(node.id, NEVER_NAMES)
                    self.assertFalse(hasattr(builtins, node.id) and node.id not in OWN_NAMES, node.id)
                if isinstance(node, ast.Attribute):
                    self.assertNotIn(node.attr, NEVER_ATTRIBUTES)

        self.for_each_file(check)


if __name__ == "__main__":
    unittest.main()
