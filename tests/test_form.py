"""Whether the package keeps to the small part of Python that it is written in, as far as a reading of its rows shows."""

import ast
import builtins
import pathlib
import re
import unittest

ROOT = pathlib.Path(__file__).resolve().parent.parent
PACKAGE = ROOT / "oddlong"
FILES = sorted(PACKAGE.rglob("*.py"))
NODES = {
    "Module", "FunctionDef", "Lambda", "ClassDef", "arguments", "arg", "keyword", "alias", "ImportFrom", "Return", "Delete", "Assign",
    "AugAssign", "For", "While", "If", "Raise", "Try", "ExceptHandler", "Assert", "Expr", "Pass", "Break", "Continue", "BoolOp",
    "BinOp", "UnaryOp", "IfExp", "Dict", "Set", "ListComp", "SetComp", "DictComp", "comprehension", "Compare", "Call", "JoinedStr",
    "FormattedValue", "Constant", "Attribute", "Subscript", "Starred", "Name", "List", "Tuple", "Slice", "Load", "Store", "Del",
    "And", "Or", "Not", "Add", "Sub", "Mult", "FloorDiv", "Mod", "Pow", "LShift", "RShift", "BitOr", "BitXor", "BitAnd", "Invert",
    "UAdd", "USub", "Eq", "NotEq", "Lt", "LtE", "Gt", "GtE", "Is", "IsNot", "In", "NotIn",
}
BUILTINS = set("""len range enumerate zip min max sum abs sorted reversed int str bool bytes list tuple dict set isinstance ord repr
    any all divmod Exception ValueError TypeError KeyError IndexError LookupError ZeroDivisionError ArithmeticError OverflowError
    RuntimeError NotImplementedError StopIteration""".split())
METHODS = set("""append clear copy count endswith extend find get index insert isalnum isalpha isdigit islower isspace isupper items
    join keys ljust lower lstrip partition pop remove replace reverse rfind rjust rpartition rsplit rstrip setdefault split splitlines
    startswith strip update upper values zfill bit_length add discard sort""".split())
WORDS = re.compile(r"\b(type|typing|typing_extensions|enum|Enum|IntEnum|StrEnum|Flag|IntFlag|Generic|Protocol|ABC|ABCMeta|namedtuple"
                   r"|NamedTuple|TypedDict|TYPE_CHECKING|abstractmethod)\b|dataclass|overload|contextmanager")
WALKED = {"zip", "enumerate", "reversed", "range", "items", "keys", "values"}
WALKERS = {"list", "tuple", "dict", "sorted", "sum", "any", "all", "enumerate", "zip", "bytes", "min", "max", "join"}


def called(node):
    """The name by which a call calls."""
    if isinstance(node, ast.Call):
        return node.func.id if isinstance(node.func, ast.Name) else getattr(node.func, "attr", "")
    return ""


def bound_names(tree):
    for node in ast.walk(tree):
        if isinstance(node, (ast.FunctionDef, ast.ClassDef)):
            yield node.name
        elif isinstance(node, ast.arg):
            yield node.arg
        elif isinstance(node, ast.Name) and not isinstance(node.ctx, ast.Load):
            yield node.id
        elif isinstance(node, ast.ExceptHandler) and node.name:
            yield node.name


class FormTest(unittest.TestCase):
    def trees(self):
        for path in FILES:
            yield path, ast.parse(path.read_text(encoding="utf-8"))

    def test_files(self):
        self.assertTrue((PACKAGE / "__init__.py").is_file())
        for path in PACKAGE.rglob("*"):
            if path.name != "__pycache__" and path.parent.name != "__pycache__":
                self.assertRegex(path.name, r"\A[a-z_][a-z0-9_]*\.py\Z")
                self.assertNotRegex(path.name, r"\A(test|law_)")

    def test_sizes_and_signs(self):
        for path in FILES:
            text = path.read_bytes().decode("ascii")
            self.assertRegex(text, r"\A[ -~\n]*\Z", path)
            rows = text.split("\n")
            self.assertLessEqual(len(rows), 400, path)
            self.assertLessEqual(max(map(len, rows)), 120, path)
            self.assertIsNone(WORDS.search(text), path)
            self.assertNotIn("2 **", text)
        for path, tree in self.trees():
            for node in ast.walk(tree):
                if isinstance(node, ast.FunctionDef):
                    self.assertLessEqual(node.end_lineno - node.lineno + 1, 40, (path, node.name))

    def test_nodes(self):
        for path, tree in self.trees():
            for node in ast.walk(tree):
                where = (path.name, getattr(node, "lineno", 0))
                self.assertIn(node.__class__.__name__, NODES, where)
                if isinstance(node, ast.Constant):
                    self.assertIn(node.value.__class__, (int, str, bytes, bool, type(None)), where)
                    if isinstance(node.value, str):
                        self.assertNotIn("%", node.value, where)
                if isinstance(node, (ast.FunctionDef, ast.ClassDef)):
                    self.assertEqual(node.decorator_list, [], where)
                if isinstance(node, (ast.For, ast.While)):
                    self.assertEqual(node.orelse, [], where)
                if isinstance(node, ast.arguments):
                    self.assertFalse(node.vararg or node.kwarg or node.posonlyargs, where)
                if isinstance(node, ast.Compare) and any(isinstance(op, (ast.Is, ast.IsNot)) for op in node.ops):
                    self.assertTrue(all(isinstance(right, ast.Constant) for right in node.comparators), where)

    def test_imports(self):
        draws = {}
        for path, tree in self.trees():
            draws[path.stem] = []
            for node in tree.body:
                if isinstance(node, ast.ImportFrom):
                    self.assertEqual(node.level, 0)
                    top, file = node.module.split(".")
                    self.assertEqual(top, "oddlong")
                    draws[path.stem].append(file)
                    own = ast.parse((PACKAGE / (file + ".py")).read_text())
                    names = {one.name for one in own.body if isinstance(one, (ast.FunctionDef, ast.ClassDef))}
                    names |= {one.targets[0].id for one in own.body if isinstance(one, ast.Assign)}
                    for alias in node.names:
                        self.assertIn(alias.name, names)
                        self.assertIsNone(alias.asname)
            inner = [node for one in tree.body for node in ast.walk(one) if node is not one]
            self.assertFalse(any(isinstance(node, (ast.Import, ast.ImportFrom)) for node in inner), path)
        self.assert_no_round(draws)

    def assert_no_round(self, draws):
        done = set()
        while len(done) < len(draws):
            ready = [file for file in draws if file not in done and set(draws[file]) <= done]
            self.assertTrue(ready, "files draw from one another")
            done.update(ready)

    def test_all_that_is_drawn_is_used(self):
        for path, tree in self.trees():
            used = {node.id for node in ast.walk(tree) if isinstance(node, ast.Name)}
            for node in tree.body:
                if isinstance(node, ast.ImportFrom):
                    for alias in node.names:
                        self.assertIn(alias.name, used, path)

    def test_tops(self):
        for path, tree in self.trees():
            self.assertIsNotNone(ast.get_docstring(tree), path)
            names = []
            for node in tree.body:
                self.assertIn(node.__class__.__name__, ("Expr", "ImportFrom", "FunctionDef", "ClassDef", "Assign"), path)
                if isinstance(node, ast.Expr):
                    self.assertIsInstance(node.value, ast.Constant)
                if isinstance(node, ast.ImportFrom):
                    names += [alias.name for alias in node.names]
                elif isinstance(node, ast.Assign):
                    self.assertEqual(len(node.targets), 1)
                    names.append(node.targets[0].id)
                elif not isinstance(node, ast.Expr):
                    names.append(node.name)
            self.assertEqual(len(set(names)), len(names), path)

    def test_names(self):
        for path, tree in self.trees():
            drawn = {alias.name for node in tree.body if isinstance(node, ast.ImportFrom) for alias in node.names}
            bound = list(bound_names(tree))
            for name in bound:
                if name != "__init__":
                    self.assertRegex(name, r"\A[A-Za-z][A-Za-z0-9_]*\Z", path)
                    self.assertNotIn(name, drawn, path)
                    self.assertFalse(hasattr(builtins, name), (path, name))
            for node in ast.walk(tree):
                if isinstance(node, ast.Name) and isinstance(node.ctx, ast.Load) and node.id not in drawn and node.id not in bound:
                    self.assertIn(node.id, BUILTINS, (path, node.lineno))

    def test_methods_and_values(self):
        trees = list(self.trees())
        given = {node.attr for path, tree in trees for node in ast.walk(tree)
                 if isinstance(node, ast.Attribute) and isinstance(node.ctx, ast.Store)}
        classes = [node for path, tree in trees for node in ast.walk(tree) if isinstance(node, ast.ClassDef)]
        own = {node.name for one in classes for node in one.body if isinstance(node, ast.FunctionDef)}
        self.assertEqual(own & given, set())
        self.assertEqual({name for name in (own | given) - {"__init__"} if any(hasattr(one, name) for one in (1, "", b"", [], {}, set()))}, set())
        for path, tree in trees:
            for node in ast.walk(tree):
                if isinstance(node, ast.Attribute):
                    self.assertIn(node.attr, METHODS | given | own, (path, node.lineno))

    def test_walked_at_once(self):
        for path, tree in self.trees():
            fine = set()
            for node in ast.walk(tree):
                if isinstance(node, (ast.For, ast.comprehension)):
                    fine.add(node.iter)
                elif called(node) in WALKERS:
                    fine.update(node.args)
                elif isinstance(node, ast.Compare) and isinstance(node.ops[0], (ast.In, ast.NotIn)):
                    fine.update(node.comparators)
            for node in ast.walk(tree):
                if called(node) in WALKED:
                    self.assertIn(node, fine, (path, node.lineno))

    def test_sets_are_asked_or_sorted_at_once(self):
        for path, tree in self.trees():
            fine = set()
            for node in ast.walk(tree):
                if called(node) in ("sorted", "len") and not node.keywords:
                    fine.update(node.args)
                elif isinstance(node, ast.Compare):
                    fine.update([node.left] + node.comparators)
                elif isinstance(node, ast.Assign):
                    fine.add(node.value)
            for node in ast.walk(tree):
                if isinstance(node, (ast.Set, ast.SetComp)) or called(node) == "set":
                    self.assertIn(node, fine, (path, node.lineno))


if __name__ == "__main__":
    unittest.main()
