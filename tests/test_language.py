"""The package keeps to its part of Python: what of ../shared/LANGUAGE.md can be seen in the files."""

import ast
import builtins
import pathlib
import re
import unittest

PACKAGE = pathlib.Path(__file__).resolve().parent.parent / "sumsstay"

PLAIN = """len range enumerate zip min max sum abs sorted reversed int str bool list tuple dict set frozenset isinstance ord
repr any all divmod Exception ValueError TypeError KeyError IndexError LookupError ZeroDivisionError ArithmeticError
OverflowError RuntimeError NotImplementedError AttributeError StopIteration""".split()
METHODS = """append clear copy count endswith extend find get index insert isalnum isalpha isdigit islower isspace isupper
items join keys ljust lower lstrip partition pop remove replace reverse rfind rjust rpartition rsplit rstrip setdefault
split splitlines startswith strip update upper values zfill bit_length""".split()
NOWHERE = """register mro elements open input version_info with_traceback add_note format format_map attrgetter breakpoint
builtins compile copyright credits delattr dir eval exec exit gc getattr globals hasattr help id importlib license locals
methodcaller os quit setattr super vars sys chr print""".split()
WORDS = """type typing typing_extensions enum Enum IntEnum StrEnum Flag IntFlag Generic Protocol ABC ABCMeta namedtuple
NamedTuple TypedDict TYPE_CHECKING abstractmethod""".split()
NODES = """Module Expr Constant ImportFrom alias FunctionDef arguments arg ClassDef Assign AugAssign If While For Return
Break Continue Pass Raise Try ExceptHandler Call keyword Name Load Store Attribute Subscript Slice List Tuple Dict Set
BinOp UnaryOp BoolOp Compare IfExp ListComp comprehension Lambda JoinedStr FormattedValue Add Sub Mult FloorDiv Mod Pow
LShift RShift BitOr BitXor BitAnd Invert Not UAdd USub And Or Eq NotEq Lt LtE Gt GtE Is IsNot In NotIn""".split()


def files():
    return sorted(path for path in PACKAGE.rglob("*") if "__pycache__" not in path.parts)


def walked():
    """Every node of every file, with the file's name."""
    return [(path.name, node) for path in files() for node in ast.walk(ast.parse(path.read_text()))]


def bound_names(node):
    """The names that a node binds."""
    if isinstance(node, ast.Name) and isinstance(node.ctx, ast.Store):
        return [node.id]
    if isinstance(node, (ast.FunctionDef, ast.ClassDef)):
        return [node.name]
    return [node.arg] if isinstance(node, ast.arg) else []


class Language(unittest.TestCase):
    def test_files(self):
        self.assertIn("__init__.py", [path.name for path in files()])
        for path in files():
            self.assertRegex(path.name, r"^[a-z0-9_]+\.py$")
            self.assertNotIn(path.stem, dir(builtins) + WORDS + ["test", "tests", "testing", "site", "conftest"])

    def test_sizes_and_signs(self):
        for path in files():
            text = path.read_text(encoding="utf-8")
            self.assertRegex(text, r"\A[ -~\n]*\Z", path.name)
            self.assertLessEqual(len(text.splitlines()), 400, path.name)
            self.assertLessEqual(max([len(line) for line in text.splitlines()], default=0), 120, path.name)
        for name, node in walked():
            if isinstance(node, ast.FunctionDef):
                self.assertLessEqual(node.end_lineno - node.lineno + 1, 40, (name, node.name))

    def test_words(self):
        for path in files():
            text = path.read_text()
            self.assertEqual([word for word in WORDS if re.search(r"\b%s\b" % word, text)], [], path.name)
            self.assertNotRegex(text, "dataclass|overload|contextmanager")

    def test_forms(self):
        for name, node in walked():
            self.assertIn(node.__class__.__name__, NODES, (name, getattr(node, "lineno", 0)))
            if isinstance(node, ast.Assign):
                self.assertEqual(len(node.targets), 1, (name, node.lineno))
            if isinstance(node, (ast.For, ast.While)):
                self.assertEqual(node.orelse, [], (name, node.lineno))
            if isinstance(node, (ast.FunctionDef, ast.ClassDef)):
                self.assertEqual(node.decorator_list, [], (name, node.lineno))
            if isinstance(node, ast.Try):
                self.assertEqual(node.finalbody, [], (name, node.lineno))
            if isinstance(node, ast.ListComp):
                self.assertEqual(len(node.generators), 1, (name, node.lineno))
                self.assertLessEqual(len(node.generators[0].ifs), 1, (name, node.lineno))
            if isinstance(node, ast.Constant):
                self.assertIsInstance(node.value, (int, str, type(None)), (name, node.lineno))
            if isinstance(node, ast.Constant) and isinstance(node.value, str):
                self.assertNotIn("%", node.value, (name, node.lineno))
            if isinstance(node, ast.BinOp) and isinstance(node.op, ast.Pow):
                self.assertIsInstance(node.right, ast.Constant, (name, node.lineno))
            if isinstance(node, ast.Compare) and isinstance(node.ops[0], (ast.Is, ast.IsNot)):
                self.assertIsInstance(node.comparators[0], ast.Constant, (name, node.lineno))

    def test_names(self):
        for name, node in walked():
            for bound in bound_names(node):
                self.assertRegex(bound, r"^(__init__|__eq__|__repr__|__str__|__len__|[A-Za-z][A-Za-z0-9_]*)$", name)
                self.assertNotIn(bound, dir(builtins) + NOWHERE, name)
            if isinstance(node, ast.Name) and node.id in dir(builtins):
                self.assertIn(node.id, PLAIN, (name, node.lineno))
            if isinstance(node, (ast.Name, ast.Attribute)):
                self.assertNotIn(node.id if isinstance(node, ast.Name) else node.attr, NOWHERE, (name, node.lineno))

    def test_methods(self):
        own = [node.name for name, node in walked() if isinstance(node, ast.FunctionDef)]
        for name, node in walked():
            if isinstance(node, ast.Call) and isinstance(node.func, ast.Attribute):
                self.assertIn(node.func.attr, METHODS + own, (name, node.lineno))

    def test_imports(self):
        defined = {path.stem: [bound for node in ast.parse(path.read_text()).body for bound in self.top_names(node)]
                   for path in files()}
        drawn = {}
        for path in files():
            rows = [node for node in ast.walk(ast.parse(path.read_text())) if isinstance(node, ast.ImportFrom)]
            drawn[path.stem] = []
            for row in rows:
                self.assertEqual((row.level, row.module.split(".")[0]), (0, "sumsstay"), path.name)
                source = row.module.split(".")[1]
                drawn[path.stem].append(source)
                for imported in row.names:
                    self.assertIn(imported.name, defined[source], path.name)
                    self.assertIsNone(imported.asname)
        self.assertNoneDrawsFromItself(drawn)

    def top_names(self, node):
        if isinstance(node, ast.Assign):
            return [node.targets[0].id]
        return [node.name] if isinstance(node, (ast.FunctionDef, ast.ClassDef)) else []

    def assertNoneDrawsFromItself(self, drawn):
        for first in drawn:
            been = set(drawn[first])
            for step in drawn:
                been |= {source for middle in been for source in drawn[middle]}
            self.assertNotIn(first, been)

    def test_no_local_is_called_like_an_import_or_a_class(self):
        for path in files():
            tree = ast.parse(path.read_text())
            taken = [name.name for node in tree.body if isinstance(node, ast.ImportFrom) for name in node.names]
            taken += [node.name for node in tree.body if isinstance(node, ast.ClassDef)]
            for node in ast.walk(tree):
                if not isinstance(node, ast.ClassDef):
                    self.assertEqual([bound for bound in bound_names(node) if bound in taken], [], path.name)


if __name__ == "__main__":
    unittest.main()
