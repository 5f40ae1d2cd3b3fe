"""The package keeps to the part of Python that it is to be written in: the rules that a reading of its files can show."""

import ast
import pathlib
import re
import unittest

PACKAGE = pathlib.Path(__file__).resolve().parent.parent / "sowring"

STATEMENTS = (
    ast.Module, ast.FunctionDef, ast.ClassDef, ast.ImportFrom, ast.alias, ast.arguments, ast.arg, ast.Assign,
    ast.AugAssign, ast.If, ast.While, ast.For, ast.Return, ast.Break, ast.Continue, ast.Pass, ast.Raise, ast.Try,
    ast.ExceptHandler, ast.Expr,
)
EXPRESSIONS = (
    ast.Constant, ast.Name, ast.Attribute, ast.Subscript, ast.Slice, ast.Call, ast.keyword, ast.List, ast.Tuple,
    ast.Dict, ast.Set, ast.ListComp, ast.comprehension, ast.BinOp, ast.UnaryOp, ast.BoolOp, ast.Compare, ast.IfExp,
    ast.Lambda, ast.JoinedStr, ast.FormattedValue, ast.operator, ast.unaryop, ast.boolop, ast.cmpop, ast.expr_context,
)
BUILT_IN = set(
    "len range enumerate zip min max sum abs sorted reversed int str bool list tuple dict set frozenset isinstance "
    "ord repr any all divmod Exception ValueError TypeError KeyError IndexError LookupError ZeroDivisionError "
    "ArithmeticError OverflowError RuntimeError NotImplementedError AttributeError StopIteration".split()
)
METHODS = set(
    "append clear copy count endswith extend find get index insert isalnum isalpha isdigit islower isspace isupper "
    "items join keys ljust lower lstrip partition pop remove replace reverse rfind rjust rpartition rsplit rstrip "
    "setdefault split splitlines startswith strip update upper values zfill bit_length".split()
)
UNDERSCORED = {"__init__", "__eq__", "__repr__", "__str__", "__len__"}
CHANGES = set("append clear extend insert pop remove reverse setdefault update".split())
NOT_USED = set(
    "register mro elements open input version_info with_traceback add_note attrgetter breakpoint builtins compile "
    "copyright credits delattr dir eval exec exit gc getattr globals hasattr help id importlib license locals "
    "methodcaller os quit setattr super type vars sys __name__ chr".split()
)
KEYWORDS = {
    "sorted": {"key", "reverse"}, "min": {"key", "default"}, "max": {"key", "default"}, "sum": {"start"},
    "enumerate": {"start"}, "zip": {"strict"},
}
WORDS = re.compile(
    r"\b(type|typing|typing_extensions|enum|Enum|IntEnum|StrEnum|Flag|IntFlag|Generic|Protocol|ABC|ABCMeta|namedtuple|"
    r"NamedTuple|TypedDict|TYPE_CHECKING|abstractmethod)\b|dataclass|overload|contextmanager"
)


def files():
    return sorted(path for path in PACKAGE.rglob("*") if "__pycache__" not in path.parts)


def trees():
    return [(path.name, ast.parse(path.read_text(encoding="ascii"))) for path in files()]


def nodes(kind):
    return [(name, node) for name, tree in trees() for node in ast.walk(tree) if isinstance(node, kind)]


def bound_names(tree):
    for node in ast.walk(tree):
        if isinstance(node, (ast.FunctionDef, ast.ClassDef)):
            yield node.name
        elif isinstance(node, ast.arg):
            yield node.arg
        elif isinstance(node, ast.alias):
            yield node.asname or node.name
        elif isinstance(node, ast.Name) and isinstance(node.ctx, ast.Store):
            yield node.id
        elif isinstance(node, ast.ExceptHandler) and node.name:
            yield node.name


def top_names(tree):
    """The names that a file itself binds at its top."""
    names = [node.name for node in tree.body if isinstance(node, (ast.FunctionDef, ast.ClassDef))]
    return names + [node.targets[0].id for node in tree.body if isinstance(node, ast.Assign)]


def is_plain(value, functions):
    if isinstance(value, (ast.List, ast.Tuple)):
        return all(is_plain(part, functions) for part in value.elts)
    if isinstance(value, ast.Dict):
        return all(is_plain(part, functions) for part in value.keys + value.values)
    if isinstance(value, ast.UnaryOp):
        return isinstance(value.op, ast.USub) and is_plain(value.operand, functions)
    return isinstance(value, ast.Constant) or isinstance(value, ast.Name) and value.id in functions


def is_walk(node):
    """Whether this is a call that is to be walked on the spot."""
    if not isinstance(node, ast.Call):
        return False
    if isinstance(node.func, ast.Name):
        return node.func.id in ("zip", "enumerate", "reversed", "range")
    return isinstance(node.func, ast.Attribute) and node.func.attr in ("items", "keys", "values")


def walked_on_the_spot(tree):
    """All that a loop walks, or that one of Python's own functions is handed first."""
    found = []
    for node in ast.walk(tree):
        if isinstance(node, (ast.For, ast.comprehension)):
            found.append(node.iter)
        elif isinstance(node, ast.Call) and node.args and isinstance(node.func, ast.Name):
            if node.func.id in ("list", "tuple", "dict", "sorted", "sum", "any", "all", "enumerate", "zip"):
                found.append(node.args[0])
    return found


def walked_names(loop):
    parts = [loop.iter]
    if isinstance(loop.iter, ast.Call):
        parts += loop.iter.args
        if isinstance(loop.iter.func, ast.Attribute):
            parts.append(loop.iter.func.value)
    return {ast.unparse(part) for part in parts if isinstance(part, (ast.Name, ast.Attribute))}


def changed_names(loop):
    for node in [node for part in loop.body for node in ast.walk(part)]:
        if isinstance(node, ast.Call) and isinstance(node.func, ast.Attribute) and node.func.attr in CHANGES:
            yield ast.unparse(node.func.value)
        elif isinstance(node, ast.Subscript) and not isinstance(node.ctx, ast.Load):
            yield ast.unparse(node.value)
        elif isinstance(node, (ast.Name, ast.Attribute)) and isinstance(node.ctx, ast.Store):
            yield ast.unparse(node)


class LanguageTest(unittest.TestCase):
    def test_the_folder_holds_plain_files_alone(self):
        names = [path.name for path in files()]
        self.assertIn("__init__.py", names)
        for name in names:
            self.assertRegex(name, r"\A[a-z0-9_]+\.py\Z")

    def test_rows_and_signs(self):
        for path in files():
            text = path.read_bytes().decode("ascii")
            self.assertRegex(text, r"\A[\n -~]*\Z", path.name)
            self.assertIsNone(WORDS.search(text), path.name)
            rows = text.split("\n")
            self.assertLessEqual(len(rows), 400, path.name)
            self.assertLessEqual(max(len(row) for row in rows), 120, path.name)

    def test_functions_are_short_and_plain(self):
        for name, node in nodes(ast.FunctionDef):
            self.assertLessEqual(node.end_lineno - node.lineno + 1, 40, (name, node.name))
            given = node.args
            self.assertFalse(given.vararg or given.kwarg or given.kwonlyargs or given.posonlyargs, (name, node.name))
            self.assertFalse(node.decorator_list or node.returns, (name, node.name))
            self.assertFalse([arg for arg in given.args if arg.annotation], (name, node.name))

    def test_statements_and_expressions_are_those_allowed(self):
        for name, tree in trees():
            for node in ast.walk(tree):
                self.assertIsInstance(node, STATEMENTS + EXPRESSIONS, name)
                self.assertNotIsInstance(node, (ast.Div, ast.MatMult), name)
                if isinstance(node, (ast.For, ast.While)):
                    self.assertFalse(node.orelse, name)
                if isinstance(node, ast.Try):
                    self.assertFalse(node.finalbody, name)
                if isinstance(node, ast.Assign):
                    self.assertEqual(len(node.targets), 1, name)
                if isinstance(node, ast.Constant):
                    self.assertNotIsInstance(node.value, (float, complex, bytes), name)
                if isinstance(node, ast.ListComp):
                    self.assertEqual(len(node.generators), 1, name)
                    self.assertLessEqual(len(node.generators[0].ifs), 1, name)

    def test_a_bare_expression_is_a_call_or_the_head_of_a_file(self):
        for name, tree in trees():
            self.assertIsNotNone(ast.get_docstring(tree), name)
            for node in ast.walk(tree):
                if isinstance(node, ast.Expr) and node is not tree.body[0]:
                    self.assertIsInstance(node.value, ast.Call, (name, node.lineno))

    def test_powers_have_written_exponents(self):
        for name, node in nodes(ast.BinOp):
            if isinstance(node.op, ast.Pow):
                self.assertIsInstance(node.right, ast.Constant, (name, node.lineno))
                self.assertIn(node.right.value, range(65), (name, node.lineno))

    def test_imports_are_the_packages_own_and_make_no_ring(self):
        drawn = {}
        for name, node in nodes(ast.ImportFrom):
            self.assertEqual(node.level, 0, name)
            self.assertRegex(node.module, r"\Asowring\.[a-z0-9_]+\Z", name)
            for alias in node.names:
                self.assertNotEqual(alias.name, "*", name)
            drawn.setdefault(name, set()).add(node.module.split(".")[1] + ".py")
        self.assertNotIn("__init__.py", drawn)
        left = dict(drawn)
        while left:
            free = [name for name in left if not left[name] & set(left)]
            self.assertTrue(free, left)
            for name in free:
                left.pop(name)

    def test_names_are_plain_and_not_pythons_own(self):
        own = set(dir(__import__("builtins")))
        for name, tree in trees():
            for bound in bound_names(tree):
                self.assertTrue(bound in UNDERSCORED or re.fullmatch(r"[A-Za-z][A-Za-z0-9_]*", bound), (name, bound))
                self.assertNotIn(bound, own, name)

    def test_names_that_are_read_are_known(self):
        for name, tree in trees():
            known = BUILT_IN | set(bound_names(tree))
            for node in ast.walk(tree):
                if isinstance(node, ast.Name):
                    self.assertIn(node.id, known, name)

    def test_no_local_is_called_like_a_class_or_an_import_of_its_file(self):
        for name, tree in trees():
            taken = {node.name for node in tree.body if isinstance(node, ast.ClassDef)}
            taken |= {alias.name for node in tree.body if isinstance(node, ast.ImportFrom) for alias in node.names}
            for node in ast.walk(tree):
                if isinstance(node, ast.arg):
                    self.assertNotIn(node.arg, taken, name)
                if isinstance(node, ast.Name) and isinstance(node.ctx, ast.Store):
                    self.assertNotIn(node.id, taken, name)

    def test_methods_are_the_packages_own_or_those_allowed(self):
        own = {method.name for name, node in nodes(ast.ClassDef) for method in node.body}
        for name, node in nodes(ast.Call):
            if isinstance(node.func, ast.Attribute):
                self.assertIn(node.func.attr, METHODS | own, name)

    def test_class_bodies_hold_methods_alone(self):
        for name, node in nodes(ast.ClassDef):
            self.assertLessEqual(len(node.bases), 1, (name, node.name))
            methods = [part.name for part in node.body]
            self.assertEqual(len(set(methods)), len(methods), (name, node.name))
            for part in node.body:
                self.assertIsInstance(part, ast.FunctionDef, (name, node.name))

    def test_the_top_of_a_file_is_plain(self):
        for name, tree in trees():
            functions = []
            for node in tree.body[1:]:
                self.assertIsInstance(node, (ast.ImportFrom, ast.FunctionDef, ast.ClassDef, ast.Assign), name)
                if isinstance(node, ast.FunctionDef):
                    functions.append(node.name)
                if isinstance(node, ast.Assign):
                    self.assertTrue(is_plain(node.value, functions), (name, node.lineno))
                    parts = list(ast.walk(node.value))[1:]
                    self.assertFalse([part for part in parts if isinstance(part, (ast.List, ast.Dict))], name)
            imported = [alias.name for node in tree.body if isinstance(node, ast.ImportFrom) for alias in node.names]
            bound = top_names(tree) + imported
            self.assertEqual(len(set(bound)), len(bound), name)

    def test_classes_and_imports_stand_at_the_top_alone(self):
        for name, tree in trees():
            inner = [node for node in ast.walk(tree) if isinstance(node, (ast.ClassDef, ast.ImportFrom))]
            self.assertEqual(len(inner), len([node for node in inner if node in tree.body]), name)

    def test_names_are_drawn_from_the_file_that_defines_them_and_are_used(self):
        defined = {name: top_names(tree) for name, tree in trees()}
        for name, tree in trees():
            read = [node.id for node in ast.walk(tree) if isinstance(node, ast.Name)]
            for node in [node for node in tree.body if isinstance(node, ast.ImportFrom)]:
                for alias in node.names:
                    self.assertIn(alias.name, defined[node.module.split(".")[1] + ".py"], name)
                    self.assertIn(alias.name, read, name)

    def test_what_stands_at_the_top_is_only_read(self):
        for name, tree in trees():
            kept = {node.targets[0].id for node in tree.body if isinstance(node, ast.Assign)}
            for loop in [node for node in tree.body if isinstance(node, (ast.FunctionDef, ast.ClassDef))]:
                self.assertFalse(kept & set(changed_names(loop)), name)

    def test_names_that_are_not_used(self):
        for name, tree in trees():
            for node in ast.walk(tree):
                if isinstance(node, ast.Name):
                    self.assertNotIn(node.id, NOT_USED, name)
                if isinstance(node, ast.Attribute):
                    self.assertNotIn(node.attr, NOT_USED | {"format", "format_map"}, name)

    def test_no_name_is_a_method_and_a_value(self):
        own = {method.name for name, node in nodes(ast.ClassDef) for method in node.body}
        values = {node.attr for name, node in nodes(ast.Attribute) if isinstance(node.ctx, ast.Store)}
        self.assertFalse(own & values)
        python = set().union(*[dir(kind) for kind in (str, int, list, dict, set, bytes, Exception)])
        self.assertFalse((own - UNDERSCORED | values) & python)

    def test_methods_are_called_where_they_stand(self):
        for name, tree in trees():
            called = [node.func for node in ast.walk(tree) if isinstance(node, ast.Call)]
            for node in ast.walk(tree):
                if isinstance(node, ast.Attribute) and node.attr in METHODS:
                    self.assertIn(node, called, (name, node.lineno))

    def test_errors_are_the_packages_own(self):
        own = [node.name for node in dict(trees())["errors.py"].body if isinstance(node, ast.ClassDef)]
        for name, node in nodes(ast.ExceptHandler):
            self.assertIsInstance(node.type, ast.Name, name)
            self.assertIn(node.type.id, own, name)
        for name, node in nodes(ast.Raise):
            self.assertIsInstance(node.exc, ast.Call, name)
            self.assertIn(node.exc.func.id, own, name)

    def test_is_stands_beside_none_true_and_false(self):
        for name, node in nodes(ast.Compare):
            for operator, right in zip(node.ops, node.comparators):
                if isinstance(operator, (ast.Is, ast.IsNot)):
                    self.assertIsInstance(right, ast.Constant, (name, node.lineno))
                    self.assertIn(right.value, (None, True, False), (name, node.lineno))

    def test_keywords_are_those_allowed(self):
        for name, node in nodes(ast.Call):
            for keyword in node.keywords:
                self.assertIsInstance(node.func, ast.Name, (name, node.lineno))
                self.assertIn(keyword.arg, KEYWORDS.get(node.func.id, ()), (name, node.lineno))

    def test_walks_are_walked_on_the_spot(self):
        for name, tree in trees():
            spots = walked_on_the_spot(tree)
            for node in ast.walk(tree):
                if is_walk(node):
                    self.assertIn(node, spots, (name, node.lineno))

    def test_what_a_loop_walks_is_not_changed_in_it(self):
        for name, node in nodes(ast.For):
            self.assertFalse(walked_names(node) & set(changed_names(node)), (name, node.lineno))

    def test_there_are_no_sets(self):
        self.assertFalse(nodes((ast.Set, ast.SetComp)))
        self.assertFalse([name for name, node in nodes(ast.Name) if node.id in ("set", "frozenset")])

    def test_texts_hold_no_percent_sign(self):
        for name, node in nodes(ast.Constant):
            if isinstance(node.value, str):
                self.assertNotIn("%", node.value, (name, node.lineno))

    def test_making_an_object_gives_back_nothing(self):
        for name, node in nodes(ast.FunctionDef):
            if node.name == "__init__":
                self.assertFalse([part for part in ast.walk(node) if isinstance(part, ast.Return)], name)


if __name__ == "__main__":
    unittest.main()
