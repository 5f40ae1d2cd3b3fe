"""The package keeps to the part of Python that it is to be written in: the rules that a reading of its files can show."""

import ast
import pathlib
import re
import unittest

PACKAGE = pathlib.Path(__file__).resolve().parent.parent / "sowring"

STATEMENTS = (
    ast.Module, ast.FunctionDef, ast.ClassDef, ast.ImportFrom, ast.alias, ast.arguments, ast.arg, ast.Assign,
    ast.AugAssign, ast.If, ast.While, ast.For, ast.Return, ast.Break, ast.Continue, ast.Pass, ast.Raise, ast.Try,
    ast.ExceptHandler, ast.Expr,
)
EXPRESSIONS = (
    ast.Constant, ast.Name, ast.Attribute, ast.Subscript, ast.Slice, ast.Call, ast.keyword, ast.List, ast.Tuple,
    ast.Dict, ast.Set, ast.ListComp, ast.comprehension, ast.BinOp, ast.UnaryOp, ast.BoolOp, ast.Compare, ast.IfExp,
    ast.Lambda, ast.JoinedStr, ast.FormattedValue, ast.operator, ast.unaryop, ast.boolop, ast.cmpop, ast.expr_context,
)
BUILT_IN = set(
    "len range enumerate zip min max sum abs sorted reversed int str bool list tuple dict set frozenset isinstance "
    "ord repr any all divmod Exception ValueError TypeError KeyError IndexError LookupError ZeroDivisionError "
    "ArithmeticError OverflowError RuntimeError NotImplementedError AttributeError StopIteration".split()
)
METHODS = set(
    "append clear copy count endswith extend find get index insert isalnum isalpha isdigit islower isspace isupper "
    "items join keys ljust lower lstrip partition pop remove replace reverse rfind rjust rpartition rsplit rstrip "
    "setdefault split splitlines startswith strip update upper values zfill bit_length".split()
)
UNDERSCORED = {"__init__", "__eq__", "__repr__", "__str__", "__len__"}
WORDS = re.compile(
    r"\b(type|typing|typing_extensions|enum|Enum|IntEnum|StrEnum|Flag|IntFlag|Generic|Protocol|ABC|ABCMeta|namedtuple|"
    r"NamedTuple|TypedDict|TYPE_CHECKING|abstractmethod)\b|dataclass|overload|contextmanager"
)


def files():
    return sorted(path for path in PACKAGE.rglob("*") if "__pycache__" not in path.parts)


def trees():
    return [(path.name, ast.parse(path.read_text(encoding="ascii"))) for path in files()]


def nodes(kind):
    return [(name, node) for name, tree in trees() for node in ast.walk(tree) if isinstance(node, kind)]


def bound_names(tree):
    for node in ast.walk(tree):
        if isinstance(node, (ast.FunctionDef, ast.ClassDef)):
            yield node.name
        elif isinstance(node, ast.arg):
            yield node.arg
        elif isinstance(node, ast.alias):
            yield node.asname or node.name
        elif isinstance(node, ast.Name) and isinstance(node.ctx, ast.Store):
            yield node.id


class LanguageTest(unittest.TestCase):
    def test_the_folder_holds_plain_files_alone(self):
        names = [path.name for path in files()]
        self.assertIn("__init__.py", names)
        for name in names:
            self.assertRegex(name, r"\A[a-z0-9_]+\.py\Z")

    def test_rows_and_signs(self):
        for path in files():
            text = path.read_bytes().decode("ascii")
            self.assertRegex(text, r"\A[\n -~]*\Z", path.name)
            self.assertIsNone(WORDS.search(text), path.name)
            rows = text.split("\n")
            self.assertLessEqual(len(rows), 400, path.name)
            self.assertLessEqual(max(len(row) for row in rows), 120, path.name)

    def test_functions_are_short_and_plain(self):
        for name, node in nodes(ast.FunctionDef):
            self.assertLessEqual(node.end_lineno - node.lineno + 1, 40, (name, node.name))
            given = node.args
            self.assertFalse(given.vararg or given.kwarg or given.kwonlyargs or given.posonlyargs, (name, node.name))
            self.assertFalse(node.decorator_list or node.returns, (name, node.name))
            self.assertFalse([arg for arg in given.args if arg.annotation], (name, node.name))

    def test_statements_and_expressions_are_those_allowed(self):
        for name, tree in trees():
            for node in ast.walk(tree):
                self.assertIsInstance(node, STATEMENTS + EXPRESSIONS, name)
                self.assertNotIsInstance(node, (ast.Div, ast.MatMult), name)
                if isinstance(node, (ast.For, ast.While)):
                    self.assertFalse(node.orelse, name)
                if isinstance(node, ast.Try):
                    self.assertFalse(node.finalbody, name)
                if isinstance(node, ast.Assign):
                    self.assertEqual(len(node.targets), 1, name)
                if isinstance(node, ast.Constant):
                    self.assertNotIsInstance(node.value, (float, complex, bytes), name)
                if isinstance(node, ast.ListComp):
                    self.assertEqual(len(node.generators), 1, name)
                    self.assertLessEqual(len(node.generators[0].ifs), 1, name)

    def test_a_bare_expression_is_a_call_or_the_head_of_a_file(self):
        for name, tree in trees():
            self.assertIsNotNone(ast.get_docstring(tree), name)
            for node in ast.walk(tree):
                if isinstance(node, ast.Expr) and node is not tree.body[0]:
                    self.assertIsInstance(node.value, ast.Call, (name, node.lineno))

    def test_powers_have_written_exponents(self):
        for name, node in nodes(ast.BinOp):
            if isinstance(node.op, ast.Pow):
                self.assertIsInstance(node.right, ast.Constant, (name, node.lineno))
                self.assertIn(node.right.value, range(65), (name, node.lineno))

    def test_imports_are_the_packages_own_and_make_no_ring(self):
        drawn = {}
        for name, node in nodes(ast.ImportFrom):
            self.assertEqual(node.level, 0, name)
            self.assertRegex(node.module, r"\Asowring\.[a-z0-9_]+\Z", name)
            for alias in node.names:
                self.assertNotEqual(alias.name, "*", name)
            drawn.setdefault(name, set()).add(node.module.split(".")[1] + ".py")
        self.assertNotIn("__init__.py", drawn)
        left = dict(drawn)
        while left:
            free = [name for name in left if not left[name] & set(left)]
            self.assertTrue(free, left)
            for name in free:
                left.pop(name)

    def test_names_are_plain_and_not_pythons_own(self):
        own = set(dir(__import__("builtins")))
        for name, tree in trees():
            for bound in bound_names(tree):
                self.assertTrue(bound in UNDERSCORED or re.fullmatch(r"[A-Za-z][A-Za-z0-9_]*", bound), (name, bound))
                self.assertNotIn(bound, own, name)

    def test_names_that_are_read_are_known(self):
        for name, tree in trees():
            known = BUILT_IN | set(bound_names(tree))
            for node in ast.walk(tree):
                if isinstance(node, ast.Name):
                    self.assertIn(node.id, known, name)

    def test_no_local_is_called_like_a_class_or_an_import_of_its_file(self):
        for name, tree in trees():
            taken = {node.name for node in tree.body if isinstance(node, ast.ClassDef)}
            taken |= {alias.name for node in tree.body if isinstance(node, ast.ImportFrom) for alias in node.names}
            for node in ast.walk(tree):
                if isinstance(node, ast.arg):
                    self.assertNotIn(node.arg, taken, name)
                if isinstance(node, ast.Name) and isinstance(node.ctx, ast.Store):
                    self.assertNotIn(node.id, taken, name)

    def test_methods_are_the_packages_own_or_those_allowed(self):
        own = {method.name for name, node in nodes(ast.ClassDef) for method in node.body}
        for name, node in nodes(ast.Call):
            if isinstance(node.func, ast.Attribute):
                self.assertIn(node.func.attr, METHODS | own, name)

    def test_class_bodies_hold_methods_alone(self):
        for name, node in nodes(ast.ClassDef):
            self.assertLessEqual(len(node.bases), 1, (name, node.name))
            methods = [part.name for part in node.body]
            self.assertEqual(len(set(methods)), len(methods), (name, node.name))
            for part in node.body:
                self.assertIsInstance(part, ast.FunctionDef, (name, node.name))


if __name__ == "__main__":
    unittest.main()
