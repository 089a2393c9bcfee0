"""The package keeps to its small part of Python, as far as a walk over its files can tell."""

import ast
import builtins
import pathlib
import re
import unittest

PACKAGE = pathlib.Path(__file__).resolve().parent.parent / "holdsets"

NODES = set("""
    Module ImportFrom alias FunctionDef ClassDef arguments arg Assign AugAssign Expr If While For Return Break Continue
    Pass Raise Try ExceptHandler Name Load Store Constant List Tuple Dict BinOp UnaryOp BoolOp Compare IfExp Call keyword
    Attribute Subscript Slice ListComp comprehension JoinedStr FormattedValue Lambda And Or Not USub Invert Add Sub Mult
    FloorDiv Mod Pow BitAnd BitOr BitXor LShift RShift Eq NotEq Lt LtE Gt GtE Is IsNot In NotIn
""".split())

OWN_NAMES = set("""
    len range enumerate zip min max sum abs sorted reversed int str bool list tuple dict set frozenset isinstance ord
    repr any all divmod Exception ValueError TypeError KeyError IndexError LookupError ZeroDivisionError ArithmeticError
    OverflowError RuntimeError NotImplementedError AttributeError StopIteration
""".split())

METHODS = set("""
    append clear copy count endswith extend find get index insert isalnum isalpha isdigit islower isspace isupper items
    join keys ljust lower lstrip partition pop remove replace reverse rfind rjust rpartition rsplit rstrip setdefault
    split splitlines startswith strip update upper values zfill bit_length
""".split())

SPECIAL_METHODS = ("__init__", "__eq__", "__repr__", "__str__", "__len__")

WORDS = re.compile(
    r"\b(type|typing|typing_extensions|enum|Enum|IntEnum|StrEnum|Flag|IntFlag|Generic|Protocol|ABC|ABCMeta|namedtuple"
    r"|NamedTuple|TypedDict|TYPE_CHECKING|abstractmethod)\b|dataclass|overload|contextmanager"
)

PLAIN_NAME = re.compile(r"[A-Za-z][A-Za-z0-9_]*")


def package_files():
    return sorted(path for path in PACKAGE.rglob("*") if path.is_file() and "__pycache__" not in path.parts)


def own_attributes(trees):
    """Tell the methods and fields that the package's own classes have."""
    names = set()
    for tree in trees:
        for node in ast.walk(tree):
            if isinstance(node, ast.ClassDef):
                names |= {part.name for part in node.body if isinstance(part, ast.FunctionDef)}
            if isinstance(node, ast.Attribute) and isinstance(node.ctx, ast.Store):
                names.add(node.attr)
    return names


def top_names(tree):
    """Tell the names that a file binds at its top, but those that it imports."""
    names = [node.name for node in tree.body if isinstance(node, (ast.FunctionDef, ast.ClassDef))]
    return names + [node.targets[0].id for node in tree.body if isinstance(node, ast.Assign)]


def imported_names(tree):
    return [name.name for node in tree.body if isinstance(node, ast.ImportFrom) for name in node.names]


def imported_files(tree):
    return {node.module.split(".")[1] for node in tree.body if isinstance(node, ast.ImportFrom)}


def local_names(function):
    """Tell the parameters and the names that are bound within a function."""
    names = {node.arg for node in ast.walk(function) if isinstance(node, ast.arg)}
    return names | {node.id for node in ast.walk(function) if isinstance(node, ast.Name) and isinstance(node.ctx, ast.Store)}


class LanguageTest(unittest.TestCase):
    def setUp(self):
        self.texts = {path: path.read_text(encoding="ascii") for path in package_files()}
        self.trees = {path: ast.parse(text) for path, text in self.texts.items()}

    def nodes(self, *kinds):
        for path, tree in self.trees.items():
            for node in ast.walk(tree):
                if isinstance(node, kinds):
                    yield f"{path.name}:{getattr(node, 'lineno', 0)}", node

    def test_files(self):
        self.assertIn(PACKAGE / "__init__.py", self.texts)
        for path in self.texts:
            self.assertRegex(path.name, r"^(__init__|__main__|[a-z][a-z0-9_]*)\.py$")

    def test_signs_sizes_and_words(self):
        for path, text in self.texts.items():
            self.assertLessEqual(text.count("\n"), 400, path.name)
            for number, row in enumerate(text.split("\n"), start=1):
                with self.subTest(file=path.name, row=number):
                    self.assertLessEqual(len(row), 120)
                    self.assertTrue(all(" " <= sign <= "~" for sign in row))
                    self.assertIsNone(WORDS.search(row))

    def test_the_top_of_each_file(self):
        for path, tree in self.trees.items():
            for node in tree.body:
                with self.subTest(file=path.name, row=node.lineno):
                    self.assertIsInstance(node, (ast.Expr, ast.ImportFrom, ast.FunctionDef, ast.ClassDef, ast.Assign))

    def test_imports(self):
        for where, node in self.nodes(ast.ImportFrom):
            self.assertEqual(node.level, 0, where)
            self.assertTrue(node.module.startswith("holdsets."), where)
            self.assertNotIn("*", [name.name for name in node.names], where)

    def test_imports_from_the_file_that_defines_the_name(self):
        defined = {path.stem: top_names(tree) for path, tree in self.trees.items()}
        for where, node in self.nodes(ast.ImportFrom):
            for name in node.names:
                self.assertIsNone(name.asname, where)
                self.assertIn(name.name, defined[node.module.split(".")[1]], where)

    def test_no_two_files_draw_from_one_another(self):
        drawn = {path.stem: imported_files(tree) for path, tree in self.trees.items()}
        self.assertEqual(drawn["__init__"], set())
        done = set()
        while drawn:
            ready = {name for name, others in drawn.items() if others <= done}
            self.assertNotEqual(ready, set(), drawn)
            done |= ready
            drawn = {name: others for name, others in drawn.items() if name not in ready}

    def test_names_are_bound_once(self):
        for path, tree in self.trees.items():
            names = top_names(tree) + imported_names(tree)
            self.assertEqual(sorted(names), sorted(set(names)), path.name)
            for function in ast.walk(tree):
                if isinstance(function, ast.FunctionDef):
                    self.assertEqual(local_names(function) & set(names), set(), path.name)

    def test_what_stands_at_the_top_holds_no_list_or_dict_within(self):
        for path, tree in self.trees.items():
            for node in tree.body:
                if isinstance(node, ast.Assign):
                    inner = [part for part in ast.walk(node.value) if isinstance(part, (ast.List, ast.Dict))]
                    self.assertIn(inner, ([], [node.value]), f"{path.name}:{node.lineno}")

    def test_what_stands_at_the_top_is_only_read(self):
        for path, tree in self.trees.items():
            kept = [
                node.targets[0].id for node in tree.body
                if isinstance(node, ast.Assign) and isinstance(node.value, (ast.List, ast.Dict))
            ]
            allowed = set()
            for node in ast.walk(tree):
                if isinstance(node, ast.Subscript) and isinstance(node.ctx, ast.Load):
                    allowed.add(node.value)
                if isinstance(node, ast.Compare):
                    allowed |= set(node.comparators)
            for node in ast.walk(tree):
                if isinstance(node, ast.Name) and isinstance(node.ctx, ast.Load) and node.id in kept:
                    self.assertIn(node, allowed, f"{path.name}:{node.lineno}")

    def test_a_name_is_a_method_or_a_value(self):
        methods = {part.name for _, node in self.nodes(ast.ClassDef) for part in node.body if isinstance(part, ast.FunctionDef)}
        fields = {node.attr for _, node in self.nodes(ast.Attribute) if isinstance(node.ctx, ast.Store)}
        self.assertEqual(methods & fields, set())

    def test_powers_have_written_exponents(self):
        for where, node in self.nodes(ast.BinOp):
            if isinstance(node.op, ast.Pow):
                self.assertIn(getattr(node.right, "value", -1), range(65), where)

    def test_walked_at_once(self):
        for path, tree in self.trees.items():
            allowed = set()
            for node in ast.walk(tree):
                if isinstance(node, (ast.For, ast.comprehension)):
                    allowed.add(node.iter)
                if isinstance(node, ast.Call):
                    allowed |= set(node.args)
            for node in ast.walk(tree):
                if isinstance(node, ast.Call) and getattr(node.func, "id", "") in ("range", "zip", "enumerate", "reversed"):
                    self.assertIn(node, allowed, f"{path.name}:{node.lineno}")

    def test_kinds_of_steps(self):
        for where, node in self.nodes(ast.AST):
            self.assertIn(type(node).__name__, NODES, where)
        for where, node in self.nodes(ast.Assign):
            self.assertEqual(len(node.targets), 1, where)
        for where, node in self.nodes(ast.For, ast.While):
            self.assertEqual(node.orelse, [], where)
        for where, node in self.nodes(ast.Try):
            self.assertEqual(node.finalbody, [], where)
        for where, node in self.nodes(ast.Expr):
            self.assertIsInstance(node.value, (ast.Call, ast.Constant), where)
        for where, node in self.nodes(ast.comprehension):
            self.assertLessEqual(len(node.ifs), 1, where)
        for where, node in self.nodes(ast.ListComp):
            self.assertEqual(len(node.generators), 1, where)

    def test_functions_and_classes(self):
        for where, node in self.nodes(ast.FunctionDef):
            self.assertLessEqual(node.end_lineno - node.lineno + 1, 40, where)
            self.assertEqual(node.decorator_list, [], where)
            self.assertTrue(node.args.vararg is None and node.args.kwarg is None and node.args.kwonlyargs == [], where)
        for where, node in self.nodes(ast.ClassDef):
            self.assertEqual((node.decorator_list, node.keywords), ([], []), where)
            self.assertLessEqual(len(node.bases), 1, where)
            self.assertTrue(all(isinstance(part, ast.FunctionDef) for part in node.body), where)

    def test_names(self):
        for where, node in self.nodes(ast.Name, ast.arg, ast.FunctionDef, ast.ClassDef):
            name = getattr(node, "id", None) or getattr(node, "arg", None) or node.name
            if name in SPECIAL_METHODS:
                continue
            self.assertIsNotNone(PLAIN_NAME.fullmatch(name), where)
            if isinstance(node, ast.Name) and isinstance(node.ctx, ast.Load):
                self.assertTrue(name in OWN_NAMES or not hasattr(builtins, name), where)
            else:
                self.assertFalse(hasattr(builtins, name), where)

    def test_methods_and_fields(self):
        own = own_attributes(self.trees.values())
        for where, node in self.nodes(ast.Attribute):
            self.assertIn(node.attr, METHODS | own, where)

    def test_values(self):
        for where, node in self.nodes(ast.Constant):
            self.assertTrue(node.value is None or isinstance(node.value, (bool, int, str)), where)
            self.assertNotIn("%", node.value if isinstance(node.value, str) else "", where)
        for where, node in self.nodes(ast.Compare):
            for sign, value in zip(node.ops, node.comparators):
                if isinstance(sign, (ast.Is, ast.IsNot)):
                    self.assertIn(getattr(value, "value", ""), (None, True, False), where)


if __name__ == "__main__":
    unittest.main()
