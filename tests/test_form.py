"""The form of the package's files: the part of LANGUAGE.md that is easily seen, not all of it."""

import ast
import builtins
import pathlib
import re
import unittest

PACKAGE = pathlib.Path(__file__).resolve().parent.parent / "driftmeet"
FILES = sorted(path for path in PACKAGE.rglob("*") if path.is_file() and "__pycache__" not in path.parts)

# The statements and expressions of L6 and L7, by the names of Python's own tree of a program.
NODES = """
Module ImportFrom alias FunctionDef arguments arg ClassDef Assign AugAssign Name Load Store Attribute Subscript Slice
If While For Return Break Continue Pass Raise Try ExceptHandler Expr Call keyword Constant List Tuple Dict Set
UnaryOp USub UAdd Not Invert BinOp Add Sub Mult FloorDiv Mod Pow BitAnd BitOr BitXor LShift RShift
Compare Eq NotEq Lt LtE Gt GtE Is IsNot In NotIn BoolOp And Or IfExp ListComp comprehension Lambda
JoinedStr FormattedValue
""".split()
BUILT_IN = """
len range enumerate zip min max sum abs sorted reversed int str bool list tuple dict set frozenset isinstance ord
repr any all divmod Exception ValueError TypeError KeyError IndexError LookupError ZeroDivisionError ArithmeticError
OverflowError RuntimeError NotImplementedError AttributeError StopIteration
""".split()
METHODS = """
append clear copy count endswith extend find get index insert isalnum isalpha isdigit islower isspace isupper items
join keys ljust lower lstrip partition pop remove replace reverse rfind rjust rpartition rsplit rstrip setdefault split
splitlines startswith strip update upper values zfill bit_length title add discard __init__
""".split()
WORDS = """
type typing typing_extensions enum Enum IntEnum StrEnum Flag IntFlag Generic Protocol ABC ABCMeta namedtuple NamedTuple
TypedDict TYPE_CHECKING abstractmethod
""".split()
WALKED = "zip enumerate reversed range items keys values".split()
WALKERS = "list tuple dict sorted sum any all enumerate zip min max".split()
DOUBLE = ["__init__", "__eq__", "__repr__", "__str__", "__len__"]
OWN_TO_PYTHON = {name for one in (str, int, list, dict, set, bytes, tuple) for name in dir(one)}


def lines_of(node):
    return node.end_lineno - node.lineno + 1


def bound_names(tree):
    """All names that a file gives: (name, line)."""
    for node in ast.walk(tree):
        if isinstance(node, (ast.FunctionDef, ast.ClassDef)):
            yield node.name, node.lineno
        elif isinstance(node, ast.arg):
            yield node.arg, node.lineno
        elif isinstance(node, ast.Name) and isinstance(node.ctx, ast.Store):
            yield node.id, node.lineno
        elif isinstance(node, ast.Attribute) and isinstance(node.ctx, ast.Store):
            yield node.attr, node.lineno


def imported(tree):
    rows = [node for node in tree.body if isinstance(node, ast.ImportFrom)]
    return [alias.asname or alias.name for node in rows for alias in node.names]


def top_names(node):
    """The names that one row of a file's top gives, imports aside."""
    if isinstance(node, (ast.FunctionDef, ast.ClassDef)):
        return [node.name]
    if isinstance(node, ast.Assign):
        return [target.id for target in node.targets]
    return []


class Form(unittest.TestCase):
    def each(self):
        for path in FILES:
            text = path.read_text(encoding="utf-8")
            yield path, text, ast.parse(text)

    def test_files(self):
        self.assertIn(PACKAGE / "__init__.py", FILES)
        for path in FILES:
            self.assertRegex(path.name, r"\A(__init__|__main__|[a-z][a-z0-9_]*)\.py\Z", path)

    def test_signs_and_sizes(self):
        for path, text, tree in self.each():
            self.assertRegex(text, r"\A[ -~\n]*\Z", path)
            rows = text.split("\n")
            self.assertLessEqual(len(rows), 401, path)
            for number, row in enumerate(rows, start=1):
                self.assertLessEqual(len(row), 120, (path, number))
            for node in ast.walk(tree):
                if isinstance(node, ast.FunctionDef):
                    self.assertLessEqual(lines_of(node), 40, (path, node.name))

    def test_words(self):
        for path, text, _ in self.each():
            for word in WORDS:
                self.assertIsNone(re.search(rf"\b{word}\b", text), (path, word))
            for part in ("dataclass", "overload", "contextmanager"):
                self.assertNotIn(part, text, path)

    def test_imports(self):
        for path, _, tree in self.each():
            inner = [node for node in ast.walk(tree) if isinstance(node, ast.ImportFrom)]
            for node in inner:
                self.assertIn(node, tree.body, (path, node.lineno))
                self.assertEqual(node.level, 0, (path, node.lineno))
                self.assertRegex(node.module, r"\Adriftmeet\.[a-z0-9_]+\Z", (path, node.lineno))
                self.assertNotIn("*", [alias.name for alias in node.names], (path, node.lineno))

    def test_parts_of_the_language(self):
        for path, _, tree in self.each():
            for node in ast.walk(tree):
                self.assertIn(node.__class__.__name__, NODES, (path, getattr(node, "lineno", 0)))
                if isinstance(node, ast.Constant):
                    self.assertNotIsInstance(node.value, (float, complex, bytes), (path, node.lineno))
                if isinstance(node, (ast.FunctionDef, ast.ClassDef)):
                    self.assertEqual(node.decorator_list, [], (path, node.lineno))
                if isinstance(node, (ast.For, ast.While)):
                    self.assertEqual(node.orelse, [], (path, node.lineno))
                if isinstance(node, ast.Try):
                    self.assertEqual(node.finalbody, [], (path, node.lineno))
                if isinstance(node, ast.Assign):
                    self.assertEqual(len(node.targets), 1, (path, node.lineno))

    def test_names(self):
        for path, _, tree in self.each():
            for name, line in bound_names(tree):
                self.assertTrue(name in DOUBLE or re.fullmatch(r"[A-Za-z][A-Za-z0-9_]*", name), (path, line, name))
            for node in ast.walk(tree):
                if isinstance(node, ast.Name) and hasattr(builtins, node.id):
                    self.assertIn(node.id, BUILT_IN, (path, node.lineno))
                    self.assertIsInstance(node.ctx, ast.Load, (path, node.lineno))
                if isinstance(node, ast.arg):
                    self.assertFalse(hasattr(builtins, node.arg), (path, node.lineno, node.arg))
                if isinstance(node, ast.Attribute) and node.attr in OWN_TO_PYTHON:
                    self.assertIn(node.attr, METHODS, (path, node.lineno))

    def test_names_of_the_top_and_within(self):
        """L15: bound once at the top; nothing within is called like a class or an import of the file."""
        for path, _, tree in self.each():
            top = [name for node in tree.body for name in top_names(node)] + imported(tree)
            self.assertEqual(sorted(top), sorted(set(top)), path)
            taken = [node.name for node in tree.body if isinstance(node, ast.ClassDef)] + imported(tree)
            for node in ast.walk(tree):
                if isinstance(node, ast.arg):
                    self.assertNotIn(node.arg, taken, (path, node.lineno))
                if isinstance(node, ast.Name) and isinstance(node.ctx, ast.Store):
                    self.assertNotIn(node.id, taken, (path, node.lineno))

    def test_no_two_files_draw_from_one_another(self):
        """L16, and each name comes from the very file that defines it."""
        trees = {path.stem: tree for path, _, tree in self.each()}
        draws = {}
        for stem, tree in trees.items():
            draws[stem] = set()
            for node in tree.body:
                if isinstance(node, ast.ImportFrom):
                    source = node.module.split(".")[1]
                    draws[stem].add(source)
                    defined = [name for one in trees[source].body for name in top_names(one)]
                    for name in set(alias.name for alias in node.names):
                        self.assertIn(name, defined, (stem, node.lineno))
                        self.assertNotIn(name, imported(trees[source]), (stem, node.lineno))
        for _ in draws:
            draws = {stem: some.union(*[draws[one] for one in some]) for stem, some in draws.items()}
        for stem, some in draws.items():
            self.assertNotIn(stem, some)

    def test_methods_and_values(self):
        """L18, L25 and L26: no name is a method here and a value there; no method that is neither's own."""
        methods, values, called = set(), set(), []
        for path, _, tree in self.each():
            for node in ast.walk(tree):
                if isinstance(node, ast.ClassDef):
                    own = [one.name for one in node.body if isinstance(one, ast.FunctionDef)]
                    self.assertEqual(sorted(own), sorted(set(own)), (path, node.name))
                    methods.update(own)
                if isinstance(node, ast.Attribute) and isinstance(node.ctx, ast.Store):
                    values.add(node.attr)
                if isinstance(node, ast.Call) and isinstance(node.func, ast.Attribute):
                    called.append((node.func.attr, path, node.lineno))
        self.assertEqual(methods & values, set())
        for name, path, line in called:
            self.assertTrue(name in methods or name in METHODS, (path, line, name))

    def test_smaller_rules(self):
        """L7, L19, L20, L21, L24, L27, L28, as far as a glance at the node tells."""
        for path, _, tree in self.each():
            for node in ast.walk(tree):
                where = (path, getattr(node, "lineno", 0))
                if isinstance(node, ast.Compare) and any(isinstance(op, (ast.Is, ast.IsNot)) for op in node.ops):
                    self.assertIn(ast.unparse(node.comparators[-1]), ("None", "True", "False"), where)
                if isinstance(node, ast.BinOp) and isinstance(node.op, ast.Pow):
                    self.assertIsInstance(node.right, ast.Constant, where)
                if isinstance(node, ast.Constant) and isinstance(node.value, str):
                    self.assertNotIn("%", node.value, where)
                if isinstance(node, ast.ExceptHandler):
                    self.assertIsNotNone(node.type, where)
                    self.assertNotIn(ast.unparse(node.type), ("Exception", "TypeError"), where)
                if isinstance(node, ast.ListComp):
                    self.assertEqual(len(node.generators), 1, where)
                    self.assertLessEqual(len(node.generators[0].ifs), 1, where)
                if isinstance(node, ast.FunctionDef):
                    self.assertIsNone(node.returns, where)
                    if node.name == "__init__":
                        gives = [one for one in ast.walk(node) if isinstance(one, ast.Return) and one.value is not None]
                        self.assertEqual(gives, [], where)
                self.assertNotIsInstance(node, ast.Set, where)
                self.assertFalse(isinstance(node, ast.Name) and node.id in ("set", "frozenset"), where)

    def test_walked_at_once(self):
        """L23: what is walked stands behind an in, or straight within a call that walks it."""
        for path, _, tree in self.each():
            fine = []
            for node in ast.walk(tree):
                if isinstance(node, (ast.For, ast.comprehension)):
                    fine.append(node.iter)
                if isinstance(node, ast.Call) and node.args and ast.unparse(node.func) in WALKERS:
                    fine.append(node.args[0])
            for node in ast.walk(tree):
                if isinstance(node, ast.Call) and ast.unparse(node.func).split(".")[-1] in WALKED:
                    self.assertIn(node, fine, (path, node.lineno))


if __name__ == "__main__":
    unittest.main()
