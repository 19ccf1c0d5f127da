"""The package keeps to the small part of Python that it is written in: what of its rules can be seen from outside."""

import ast
import builtins
import pathlib
import re
import unittest

import dotscreen

PACKAGE = pathlib.Path(dotscreen.__file__).parent
FILES = sorted(path for path in PACKAGE.rglob("*") if path.is_file() and "__pycache__" not in path.parts)

NODES = """Module Import ImportFrom alias FunctionDef ClassDef arguments arg Lambda Assign AugAssign If While For Return
    Break Continue Pass Raise Try ExceptHandler Expr Constant Name Load Store Attribute Subscript Slice Call keyword
    List Tuple Dict Set ListComp comprehension JoinedStr FormattedValue IfExp BoolOp And Or BinOp UnaryOp Compare
    Add Sub Mult FloorDiv Mod Pow BitAnd BitOr BitXor LShift RShift Invert Not USub UAdd
    Eq NotEq Lt LtE Gt GtE Is IsNot In NotIn""".split()
OWN_NAMES = """len range enumerate zip min max sum abs sorted reversed int str bool list tuple dict set frozenset isinstance
    ord repr any all divmod Exception ValueError TypeError KeyError IndexError LookupError ZeroDivisionError
    ArithmeticError OverflowError RuntimeError NotImplementedError AttributeError StopIteration""".split()
METHODS = """append clear copy count endswith extend find get index insert isalnum isalpha isdigit islower isspace isupper
    items join keys ljust lower lstrip partition pop remove replace reverse rfind rjust rpartition rsplit rstrip
    setdefault split splitlines startswith strip update upper values zfill bit_length""".split()
DUNDERS = ["__init__", "__eq__", "__repr__", "__str__", "__len__"]
WORDS = """type typing typing_extensions enum Enum IntEnum StrEnum Flag IntFlag Generic Protocol ABC ABCMeta namedtuple
    NamedTuple TypedDict TYPE_CHECKING abstractmethod""".split()


def modules():
    return [(path.name, path.read_text("ascii"), ast.parse(path.read_text("ascii"))) for path in FILES]


def defs(tree, kinds):
    return [node for node in ast.walk(tree) if isinstance(node, kinds)]


def names_bound(tree):
    """The names of a file that are stored, and those of its parameters."""
    stored = [node.id for node in defs(tree, ast.Name) if isinstance(node.ctx, ast.Store)]
    return stored + [node.arg for node in defs(tree, ast.arg)]


class LanguageTest(unittest.TestCase):
    def test_files(self):
        self.assertIn("__init__.py", [path.name for path in FILES])
        for path in FILES:
            self.assertEqual(path.parent, PACKAGE)
            self.assertRegex(path.name, r"\A(__init__|[a-z][a-z0-9_]*)\.py\Z")

    def test_signs_and_sizes(self):
        for name, text, tree in modules():
            with self.subTest(file=name):
                self.assertRegex(text, r"\A[ -~\n]*\Z")
                self.assertLessEqual(text.count("\n"), 400)
                self.assertLessEqual(max(len(line) for line in text.split("\n")), 120)
                for node in defs(tree, ast.FunctionDef):
                    self.assertLessEqual(node.end_lineno - node.lineno + 1, 40, node.name)

    def test_words(self):
        for name, text, tree in modules():
            with self.subTest(file=name):
                self.assertEqual([word for word in re.findall(r"\w+", text) if word in WORDS], [])
                self.assertNotRegex(text, "dataclass|overload|contextmanager")

    def test_imports(self):
        for name, text, tree in modules():
            for node in defs(tree, (ast.Import, ast.ImportFrom)):
                with self.subTest(file=name, line=node.lineno):
                    self.assertIn(node, tree.body)
                    self.assertIsInstance(node, ast.ImportFrom)
                    self.assertEqual(node.level, 0)
                    source = ast.parse((PACKAGE / (node.module.removeprefix("dotscreen.") + ".py")).read_text("ascii"))
                    defined = [each.name for each in source.body if isinstance(each, (ast.FunctionDef, ast.ClassDef))]
                    self.assertLessEqual({each.name for each in node.names}, set(defined + names_bound(source)))

    def test_statements_and_expressions(self):
        for name, text, tree in modules():
            for node in ast.walk(tree):
                with self.subTest(file=name, line=getattr(node, "lineno", None)):
                    self.assertIn(type(node).__name__, NODES)
                    self.assert_narrow(node)

    def assert_narrow(self, node):
        if isinstance(node, ast.Constant):
            self.assertIn(type(node.value), (int, str, bool, type(None)))
        if isinstance(node, ast.Assign):
            self.assertEqual(len(node.targets), 1)
        if isinstance(node, (ast.For, ast.While)):
            self.assertEqual(node.orelse, [])
        if isinstance(node, (ast.FunctionDef, ast.ClassDef)):
            self.assertEqual(node.decorator_list, [])
        if isinstance(node, ast.arguments):
            self.assertEqual((node.vararg, node.kwarg, node.kwonlyargs, node.posonlyargs), (None, None, [], []))
        if isinstance(node, ast.ClassDef):
            self.assertLessEqual(len(node.bases), 1)
            self.assertLessEqual({type(each) for each in node.body}, {ast.FunctionDef, ast.Pass})
        if isinstance(node, ast.ListComp):
            self.assertEqual(len(node.generators), 1)
            self.assertLessEqual(len(node.generators[0].ifs), 1)
        if isinstance(node, ast.Compare) and isinstance(node.ops[0], (ast.Is, ast.IsNot)):
            self.assertIn(node.comparators[0].value, (None, True, False))

    def test_names(self):
        for name, text, tree in modules():
            top = [each.name for each in tree.body if isinstance(each, (ast.FunctionDef, ast.ClassDef))]
            classes = [each.name for each in tree.body if isinstance(each, ast.ClassDef)]
            drawn = [each.name for node in defs(tree, ast.ImportFrom) for each in node.names]
            bound = names_bound(tree)
            with self.subTest(file=name):
                self.assertEqual(len(set(top + drawn)), len(top + drawn))
                self.assertEqual(set(bound) & set(classes + drawn + dir(builtins)), set())
                self.assertEqual([each for each in bound + top + drawn if each.startswith("_")], [])
                read = {node.id for node in defs(tree, ast.Name) if isinstance(node.ctx, ast.Load)}
                inner = [node.name for node in defs(tree, ast.FunctionDef)]
                self.assertLessEqual(read, set(bound + top + drawn + inner + OWN_NAMES))

    def test_methods(self):
        trees = [tree for name, text, tree in modules()]
        own = {node.name for tree in trees for kind in defs(tree, ast.ClassDef) for node in kind.body
               if isinstance(node, ast.FunctionDef)}
        values = {node.attr for tree in trees for node in defs(tree, ast.Attribute) if isinstance(node.ctx, ast.Store)}
        self.assertEqual(own & values, set())
        self.assertEqual([each for each in own | values if each.startswith("_") and each not in DUNDERS], [])
        for tree in trees:
            for node in defs(tree, ast.Attribute):
                self.assertIn(node.attr, own | values | set(METHODS))


if __name__ == "__main__":
    unittest.main()
