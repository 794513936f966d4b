"""The package keeps to the small part of Python that is told in LANGUAGE.md, as far as a look at its files shows."""

import ast
import builtins
import pathlib
import re
import unittest

import newletters

FOLDER = pathlib.Path(newletters.__file__).parent
OWN_NAMES = set(
    "len range enumerate zip min max sum abs sorted reversed int str bool list tuple dict set frozenset isinstance "
    "ord repr any all divmod Exception ValueError KeyError IndexError LookupError ZeroDivisionError ArithmeticError "
    "OverflowError RuntimeError NotImplementedError StopIteration TypeError".split())
METHODS = set(
    "append clear copy count endswith extend find get index insert isalnum isalpha isdigit islower isspace isupper "
    "items join keys ljust lower lstrip partition pop remove replace reverse rfind rjust rpartition rsplit rstrip "
    "setdefault split splitlines startswith strip update upper values zfill bit_length".split())
DOUBLE = {"__init__", "__eq__", "__repr__", "__str__", "__len__"}
NOWHERE = re.compile(
    r"\b(type|typing|typing_extensions|enum|Enum|IntEnum|StrEnum|Flag|IntFlag|Generic|Protocol|ABC|ABCMeta|namedtuple"
    r"|NamedTuple|TypedDict|TYPE_CHECKING|abstractmethod)\b|dataclass|overload|contextmanager")
UNUSED = set("register mro elements open input version_info with_traceback add_note format format_map".split())
STATEMENTS = (ast.Assign, ast.AugAssign, ast.If, ast.While, ast.For, ast.Return, ast.Break, ast.Continue, ast.Pass,
              ast.Raise, ast.Try, ast.Expr, ast.FunctionDef, ast.ClassDef, ast.ImportFrom)
EXPRESSIONS = (ast.Constant, ast.List, ast.Tuple, ast.Dict, ast.BinOp, ast.UnaryOp, ast.Compare, ast.BoolOp, ast.IfExp,
               ast.Call, ast.Attribute, ast.Subscript, ast.Slice, ast.ListComp, ast.JoinedStr, ast.FormattedValue,
               ast.Name, ast.Lambda, ast.Set)
WALKED = {"zip", "enumerate", "reversed", "range"}


def trees():
    return [(path.name, ast.parse(path.read_text())) for path in sorted(FOLDER.glob("*.py"))]


def walk_all(kinds):
    return [(name, node) for name, tree in trees() for node in ast.walk(tree) if isinstance(node, kinds)]


def plain_value(node):
    if isinstance(node, (ast.Tuple, ast.List)):
        return all(plain_value(member) for member in node.elts)
    if isinstance(node, ast.Dict):
        return all(plain_value(member) for member in node.keys + node.values)
    return isinstance(node, (ast.Constant, ast.Name))


def bound_names(tree):
    for node in ast.walk(tree):
        if isinstance(node, ast.arg):
            yield node.arg
        elif isinstance(node, ast.Name) and isinstance(node.ctx, ast.Store):
            yield node.id
        elif isinstance(node, (ast.FunctionDef, ast.ClassDef)):
            yield node.name


def imported_names(tree):
    return [alias.name for node in tree.body if isinstance(node, ast.ImportFrom) for alias in node.names]


def top_names(tree):
    for node in tree.body:
        if isinstance(node, (ast.FunctionDef, ast.ClassDef)):
            yield node.name
        elif isinstance(node, ast.Assign):
            yield node.targets[0].id


class Files(unittest.TestCase):
    def test_files_and_signs(self):
        for path in FOLDER.iterdir():
            if path.name == "__pycache__":
                continue
            self.assertRegex(path.name, r"^([a-z][a-z0-9_]*|__init__)\.py$")
            self.assertNotIn(path.stem, dir(builtins))
            text = path.read_text(encoding="utf-8")
            self.assertRegex(text, r"\A[ -~\n]*\Z", path.name)
            self.assertNotRegex(text, NOWHERE, path.name)
            rows = text.split("\n")
            self.assertLessEqual(len(rows), 400, path.name)
            self.assertLessEqual(max(len(row) for row in rows), 120, path.name)

    def test_top_of_a_module(self):
        for name, tree in trees():
            self.assertIsNotNone(ast.get_docstring(tree), name)
            for node in tree.body[1:]:
                self.assertIsInstance(node, (ast.ImportFrom, ast.FunctionDef, ast.ClassDef, ast.Assign), name)
                if isinstance(node, ast.Assign):
                    self.assertTrue(plain_value(node.value), (name, node.lineno))
            tops = list(top_names(tree)) + imported_names(tree)
            self.assertEqual(len(tops), len(set(tops)), name)

    def test_imports(self):
        drawn = {}
        defined = {name[:-3]: set(top_names(tree)) for name, tree in trees()}
        for name, tree in trees():
            drawn[name[:-3]] = set()
            for node in ast.walk(tree):
                self.assertNotIsInstance(node, ast.Import, name)
                if isinstance(node, ast.ImportFrom):
                    self.assertIn(node, tree.body, name)
                    self.assertEqual(node.level, 0, name)
                    self.assertTrue(node.module.startswith("newletters."), name)
                    source = node.module[len("newletters."):]
                    for alias in node.names:
                        self.assertIsNone(alias.asname, name)
                        self.assertIn(alias.name, defined[source], name)
                    drawn[name[:-3]].add(source)
        self.assertEqual(drawn["__init__"], set())
        while drawn:
            ends = [name for name in drawn if not drawn[name] & set(drawn)]
            self.assertTrue(ends, drawn)
            drawn = {name: drawn[name] for name in drawn if name not in ends}


class Forms(unittest.TestCase):
    def test_functions(self):
        for name, node in walk_all(ast.FunctionDef):
            place = (name, node.name)
            self.assertLessEqual(node.end_lineno - node.lineno + 1, 40, place)
            self.assertEqual(node.decorator_list, [], place)
            given = node.args
            self.assertFalse(given.vararg or given.kwarg or given.kwonlyargs or given.posonlyargs, place)
            self.assertIsNone(node.returns, place)
            self.assertTrue(all(arg.annotation is None for arg in given.args), place)

    def test_classes(self):
        for name, node in walk_all(ast.ClassDef):
            self.assertLessEqual(len(node.bases), 1, name)
            self.assertFalse(node.decorator_list or node.keywords, name)
            for member in node.body:
                self.assertIsInstance(member, (ast.FunctionDef, ast.Pass), (name, node.name))

    def test_statements(self):
        for name, node in walk_all(ast.stmt):
            place = (name, node.lineno)
            self.assertIsInstance(node, STATEMENTS, place)
            if isinstance(node, ast.Expr):
                is_docstring = node.lineno == 1 and isinstance(node.value, ast.Constant)
                self.assertTrue(is_docstring or isinstance(node.value, ast.Call), place)
            if isinstance(node, ast.Assign):
                self.assertEqual(len(node.targets), 1, place)
                self.assertNotIsInstance(node.targets[0], (ast.Tuple, ast.List), place)
            if isinstance(node, (ast.For, ast.While)):
                self.assertEqual(node.orelse, [], place)
            if isinstance(node, ast.Try):
                self.assertEqual(node.finalbody, [], place)
                for handler in node.handlers:
                    self.assertIsInstance(handler.type, ast.Name, place)
                    self.assertNotIn(handler.type.id, ("Exception", "TypeError"), place)

    def test_expressions(self):
        for name, node in walk_all(ast.expr):
            place = (name, node.lineno)
            self.assertIsInstance(node, EXPRESSIONS, place)
            if isinstance(node, ast.Constant):
                self.assertIsInstance(node.value, (int, str, type(None)), place)
                self.assertNotIn("%", str(node.value), place)
            if isinstance(node, ast.BinOp):
                self.assertNotIsInstance(node.op, (ast.Div, ast.MatMult), place)
            if isinstance(node, ast.ListComp):
                self.assertEqual(len(node.generators), 1, place)
                self.assertLessEqual(len(node.generators[0].ifs), 1, place)
            if isinstance(node, ast.FormattedValue):
                self.assertIsInstance(node.value, ast.Name, place)
                self.assertIsNone(node.format_spec, place)
            if isinstance(node, ast.Compare):
                for operator, right in zip(node.ops, node.comparators):
                    if isinstance(operator, (ast.Is, ast.IsNot)):
                        self.assertTrue(isinstance(right, ast.Constant) and right.value in (None, True, False), place)

    def test_names(self):
        for name, tree in trees():
            known = set(top_names(tree)) | set(imported_names(tree)) | set(bound_names(tree))
            classes = {node.name for node in tree.body if isinstance(node, ast.ClassDef)}
            for bound in bound_names(tree):
                self.assertTrue(bound in DOUBLE or re.match(r"^[A-Za-z][A-Za-z0-9_]*$", bound), (name, bound))
                self.assertNotIn(bound, dir(builtins), name)
                self.assertNotIn(bound, imported_names(tree), name)
            inner = [node for node in ast.walk(tree) if isinstance(node, (ast.arg, ast.Name))]
            for node in inner:
                if isinstance(node, ast.arg) or isinstance(node.ctx, ast.Store):
                    self.assertNotIn(getattr(node, "arg", getattr(node, "id", "")), classes, name)
                else:
                    self.assertTrue(node.id in known or node.id in OWN_NAMES, (name, node.id))
                    self.assertNotIn(node.id, UNUSED, name)

    def test_methods_and_values(self):
        own = {node.name for name, node in walk_all(ast.FunctionDef)}
        given = {node.attr for name, node in walk_all(ast.Attribute) if isinstance(node.ctx, ast.Store)}
        taken = {attr for kind in (str, int, list, dict, set, bytes, tuple) for attr in dir(kind)}
        self.assertFalse(given & taken)
        self.assertFalse(given & own)
        for name, node in walk_all(ast.Attribute):
            self.assertTrue(node.attr in METHODS | own | given, (name, node.attr))
            self.assertNotIn(node.attr, UNUSED, name)

    def test_walked_at_once(self):
        for name, node in walk_all(ast.Assign):
            if isinstance(node.value, ast.Call):
                function = node.value.func
                self.assertNotIn(getattr(function, "id", ""), WALKED | {"set", "frozenset"}, (name, node.lineno))
                self.assertNotIn(getattr(function, "attr", ""), ("items", "keys", "values"), (name, node.lineno))


if __name__ == "__main__":
    unittest.main()
