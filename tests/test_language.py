"""The package keeps to the small part of the language: what a walk over its files can see of that."""

import ast
import builtins
import re
import unittest
from pathlib import Path

PACKAGE = Path(__file__).resolve().parent.parent / "bestpairs"

BUILT_IN = (
    "len range enumerate zip min max sum abs sorted reversed int str bool list tuple dict set frozenset isinstance"
    " ord repr any all divmod Exception ValueError TypeError KeyError IndexError LookupError ZeroDivisionError"
    " ArithmeticError OverflowError RuntimeError NotImplementedError AttributeError StopIteration"
).split()
PYTHON_METHODS = (
    "append clear copy count endswith extend find get index insert isalnum isalpha isdigit islower isspace isupper"
    " items join keys ljust lower lstrip partition pop remove replace reverse rfind rjust rpartition rsplit rstrip"
    " setdefault split splitlines startswith strip update upper values zfill bit_length"
).split()
RULED_OUT_WORDS = (
    "type typing typing_extensions enum Enum IntEnum StrEnum Flag IntFlag Generic Protocol ABC ABCMeta namedtuple"
    " NamedTuple TypedDict TYPE_CHECKING abstractmethod"
).split()
ALLOWED_NODES = (
    "Module Expr ImportFrom alias FunctionDef arguments arg ClassDef Assign AugAssign If While For Return Break"
    " Continue Pass Raise Try ExceptHandler Call Name Load Store Constant List Tuple Dict Attribute Subscript Slice"
    " BinOp UnaryOp BoolOp Compare IfExp ListComp comprehension Lambda keyword JoinedStr FormattedValue"
    " Add Sub Mult FloorDiv Mod Pow LShift RShift BitAnd BitOr BitXor Invert USub UAdd Not And Or"
    " Eq NotEq Lt LtE Gt GtE In NotIn Is IsNot"
).split()


def files():
    return sorted(PACKAGE.rglob("*.py"))


def nodes_of(path):
    return list(ast.walk(ast.parse(path.read_text("utf-8"))))


def bound_names(nodes):
    """All names that a file binds anywhere."""
    found = {node.id for node in nodes if isinstance(node, ast.Name) and isinstance(node.ctx, ast.Store)}
    found |= {node.name for node in nodes if isinstance(node, (ast.FunctionDef, ast.ClassDef))}
    found |= {node.arg for node in nodes if isinstance(node, ast.arg)}
    found |= {node.name for node in nodes if isinstance(node, ast.ExceptHandler) and node.name}
    return found


class Language(unittest.TestCase):
    def each(self):
        found = files()
        self.assertIn(PACKAGE / "joins.py", found)
        return found

    def test_files_and_signs(self):
        for path in self.each():
            self.assertRegex(path.name, r"\A[a-z0-9_]+\.py\Z")
            data = path.read_bytes()
            self.assertEqual([byte for byte in data if not (32 <= byte <= 126 or byte == 10)], [])
            lines = data.decode("ascii").split("\n")
            self.assertLessEqual(len(lines), 400)
            self.assertLessEqual(max(len(line) for line in lines), 120)

    def test_nothing_else_lies_in_the_package(self):
        others = [path for path in PACKAGE.iterdir() if path.suffix != ".py" and path.name != "__pycache__"]
        self.assertEqual(others, [])

    def test_only_the_allowed_forms(self):
        for path in self.each():
            for node in nodes_of(path):
                self.assertIn(type(node).__name__, ALLOWED_NODES, getattr(node, "lineno", None))
                if isinstance(node, ast.Assign):
                    self.assertEqual(len(node.targets), 1, node.lineno)
                if isinstance(node, (ast.For, ast.While)):
                    self.assertEqual(node.orelse, [], node.lineno)
                if isinstance(node, ast.ListComp):
                    self.assertEqual(len(node.generators), 1, node.lineno)
                    self.assertLessEqual(len(node.generators[0].ifs), 1, node.lineno)
                if isinstance(node, ast.FunctionDef):
                    self.assertLessEqual(node.end_lineno - node.lineno + 1, 40, node.name)

    def test_imports_are_the_packages_own(self):
        for path in self.each():
            for node in nodes_of(path):
                if isinstance(node, ast.ImportFrom):
                    self.assertEqual(node.level, 0)
                    self.assertTrue(node.module.startswith("bestpairs."), node.module)

    def test_names(self):
        for path in self.each():
            nodes = nodes_of(path)
            bound = bound_names(nodes)
            imported = {alias.name for node in nodes if isinstance(node, ast.ImportFrom) for alias in node.names}
            for name in bound - {"__init__"}:
                self.assertRegex(name, r"\A[A-Za-z][A-Za-z0-9_]*\Z")
                self.assertNotIn(name, dir(builtins))
            self.assertEqual(bound & imported, set())
            for node in nodes:
                if isinstance(node, ast.Name) and node.id not in bound | imported:
                    self.assertIn(node.id, BUILT_IN, node.lineno)

    def test_methods_and_values(self):
        own = set()
        for path in files():
            nodes = nodes_of(path)
            own |= {node.name for node in nodes if isinstance(node, ast.FunctionDef)}
            own |= {n.attr for n in nodes if isinstance(n, ast.Attribute) and isinstance(n.ctx, ast.Store)}
        for path in self.each():
            for node in nodes_of(path):
                if isinstance(node, ast.Attribute):
                    self.assertIn(node.attr, own | set(PYTHON_METHODS), node.lineno)

    def test_no_name_is_a_method_here_and_a_value_there(self):
        methods, given = set(), set()
        for path in self.each():
            nodes = nodes_of(path)
            for node in nodes:
                if isinstance(node, ast.ClassDef):
                    methods |= {part.name for part in node.body if isinstance(part, ast.FunctionDef)}
            given |= {n.attr for n in nodes if isinstance(n, ast.Attribute) and isinstance(n.ctx, ast.Store)}
        self.assertEqual(methods & given, set())

    def test_words_that_stand_nowhere(self):
        for path in self.each():
            words = re.findall(r"[A-Za-z0-9_]+", path.read_text("utf-8"))
            self.assertEqual([word for word in words if word in RULED_OUT_WORDS], [])


if __name__ == "__main__":
    unittest.main()
