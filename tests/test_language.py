"""The package keeps to the part of Python that its language rules (L1 to L28) allow, as far as a walk can see."""

import ast
import builtins
import pathlib
import re
import unittest

PACKAGE = pathlib.Path(__file__).resolve().parent.parent / "rootpapers"
FILES = sorted(path for path in PACKAGE.rglob("*") if "__pycache__" not in path.parts)
NAME = re.compile(r"[A-Za-z][A-Za-z0-9_]*\Z")
OWN_OF_PYTHON = set(
    "len range enumerate zip min max sum abs sorted reversed int str bool list tuple dict set frozenset isinstance"
    " ord repr any all divmod Exception ValueError TypeError KeyError IndexError LookupError ZeroDivisionError"
    " ArithmeticError OverflowError RuntimeError NotImplementedError AttributeError StopIteration".split())
METHODS = set(
    "append clear copy count endswith extend find get index insert isalnum isalpha isdigit islower isspace isupper"
    " items join keys ljust lower lstrip partition pop remove replace reverse rfind rjust rpartition rsplit rstrip"
    " setdefault split splitlines startswith strip update upper values zfill bit_length".split())
DUNDERS = {"__init__", "__eq__", "__repr__", "__str__", "__len__"}
NOWHERE = re.compile(
    r"\b(type|typing|typing_extensions|enum|Enum|IntEnum|StrEnum|Flag|IntFlag|Generic|Protocol|ABC|ABCMeta|"
    r"namedtuple|NamedTuple|TypedDict|TYPE_CHECKING|abstractmethod)\b|dataclass|overload|contextmanager")
UNUSED = set("register mro elements open input version_info with_traceback add_note format format_map".split())
NODES = (
    ast.Module, ast.FunctionDef, ast.ClassDef, ast.arguments, ast.arg, ast.ImportFrom, ast.alias, ast.Lambda,
    ast.Assign, ast.AugAssign, ast.If, ast.While, ast.For, ast.Return, ast.Break, ast.Continue, ast.Pass, ast.Raise,
    ast.Try, ast.ExceptHandler, ast.Expr, ast.Constant, ast.List, ast.Tuple, ast.Dict, ast.Set, ast.BinOp,
    ast.UnaryOp, ast.BoolOp, ast.Compare, ast.IfExp, ast.Call, ast.keyword, ast.Attribute, ast.Subscript, ast.Slice,
    ast.ListComp, ast.comprehension, ast.JoinedStr, ast.FormattedValue, ast.Name, ast.expr_context, ast.operator,
    ast.unaryop, ast.boolop, ast.cmpop)
TOP_NODES = (ast.ImportFrom, ast.FunctionDef, ast.ClassDef, ast.Assign)


def read(path):
    return path.read_text(encoding="utf-8")


def defined_in(tree):
    names = [node.name for node in tree.body if isinstance(node, (ast.FunctionDef, ast.ClassDef))]
    for node in tree.body:
        if isinstance(node, ast.Assign):
            names.extend(target.id for target in node.targets)
    return names


def is_docstring(node):
    return isinstance(node, ast.Expr) and isinstance(node.value, ast.Constant) and isinstance(node.value.value, str)


class Language(unittest.TestCase):
    def each_file(self, check):
        for path in FILES:
            with self.subTest(file=path.name):
                check(path, ast.parse(read(path)))

    def each_node(self, check):
        for path in FILES:
            for node in ast.walk(ast.parse(read(path))):
                with self.subTest(file=path.name, line=getattr(node, "lineno", 0)):
                    check(node)

    def test_files(self):
        self.assertIn(PACKAGE / "__init__.py", FILES)
        for path in FILES:
            with self.subTest(file=path.name):
                self.assertTrue(path.is_file())
                self.assertRegex(path.name, r"\A(__init__|__main__|[a-z][a-z0-9_]*)\.py\Z")
                self.assertFalse(hasattr(builtins, path.stem) and path.stem != "__init__")
                self.assertNotRegex(path.stem, r"\A(tests?|testing|test_.*|site|conftest|.*customize)\Z")

    def test_signs_words_and_sizes(self):
        def check(path, tree):
            text = read(path)
            self.assertRegex(text, r"\A[ -~\n]*\Z")
            self.assertNotRegex(text, NOWHERE)
            self.assertLessEqual(len(text.splitlines()), 400)
            self.assertLessEqual(max(len(line) for line in text.splitlines()), 120)
        self.each_file(check)

    def test_functions_have_at_most_forty_lines(self):
        def check(node):
            if isinstance(node, ast.FunctionDef):
                self.assertLessEqual(node.end_lineno - node.lineno + 1, 40)
        self.each_node(check)

    def test_kinds_of_nodes(self):
        def check(node):
            self.assertIsInstance(node, NODES)
            self.assertNotIsInstance(node, (ast.Div, ast.MatMult))
            self.assertFalse(isinstance(node, (ast.For, ast.While)) and node.orelse)
            self.assertFalse(isinstance(node, ast.Try) and node.finalbody)
            self.assertFalse(isinstance(node, ast.comprehension) and len(node.ifs) > 1)
            self.assertFalse(isinstance(node, ast.ListComp) and len(node.generators) > 1)
            self.assertFalse(isinstance(node, ast.Assign) and len(node.targets) > 1)
            if isinstance(node, ast.Constant):
                self.assertIn(type(node.value), (int, str, bool, type(None)))
        self.each_node(check)

    def test_the_top_of_a_file(self):
        def check(path, tree):
            names = defined_in(tree)
            self.assertEqual(len(names), len(set(names)))
            self.assertTrue(is_docstring(tree.body[0]))
            for node in tree.body[1:]:
                self.assertIsInstance(node, TOP_NODES)
        self.each_file(check)

    def test_a_value_by_itself_is_a_call(self):
        def check(node):
            if not isinstance(node, ast.Module):
                for inner in ast.iter_child_nodes(node):
                    self.assertFalse(isinstance(inner, ast.Expr) and not isinstance(inner.value, ast.Call))
        self.each_node(check)

    def test_defs_and_classes(self):
        def check(node):
            if isinstance(node, (ast.FunctionDef, ast.ClassDef)):
                self.assertEqual(node.decorator_list, [])
            if isinstance(node, ast.arguments):
                self.assertEqual((node.vararg, node.kwarg, node.kwonlyargs), (None, None, []))
            if isinstance(node, ast.ClassDef):
                self.assertLessEqual(len(node.bases), 1)
                for inner in node.body:
                    self.assertIsInstance(inner, (ast.FunctionDef, ast.Pass))
        self.each_node(check)

    def test_imports(self):
        drawn = {}

        def check(path, tree):
            drawn[path.stem] = []
            for node in ast.walk(tree):
                if isinstance(node, ast.ImportFrom):
                    self.assertIn(node, tree.body)
                    self.assertEqual(node.level, 0)
                    self.assertRegex(node.module, r"\Arootpapers\.[a-z0-9_]+\Z")
                    stem = node.module.partition(".")[2]
                    drawn[path.stem].append(stem)
                    there = defined_in(ast.parse(read(PACKAGE / (stem + ".py"))))
                    for alias in node.names:
                        self.assertIn(alias.name, there)
        self.each_file(check)
        self.assert_no_circle(drawn)

    def assert_no_circle(self, drawn):
        left = dict(drawn)
        while left:
            free = [stem for stem in left if not any(other in left for other in left[stem])]
            self.assertTrue(free, left)
            for stem in free:
                del left[stem]

    def test_names(self):
        pythons = {name for name in dir(builtins) if name not in OWN_OF_PYTHON}

        def check(node):
            if isinstance(node, ast.Name):
                self.assertRegex(node.id, NAME)
                self.assertNotIn(node.id, pythons | UNUSED)
                self.assertFalse(isinstance(node.ctx, ast.Store) and hasattr(builtins, node.id))
            if isinstance(node, ast.arg):
                self.assertRegex(node.arg, NAME)
                self.assertFalse(hasattr(builtins, node.arg))
                self.assertIsNone(node.annotation)
            if isinstance(node, (ast.FunctionDef, ast.ClassDef)):
                self.assertTrue(node.name in DUNDERS or NAME.match(node.name))
        self.each_node(check)

    def test_methods(self):
        own = set()

        def gather(node):
            if isinstance(node, ast.ClassDef):
                own.update(inner.name for inner in node.body if isinstance(inner, ast.FunctionDef))

        def check(node):
            if isinstance(node, ast.Attribute):
                self.assertNotIn(node.attr, UNUSED)
            if isinstance(node, ast.Call) and isinstance(node.func, ast.Attribute):
                self.assertIn(node.func.attr, METHODS | own)
        self.each_node(gather)
        self.each_node(check)

    def test_locals_are_not_called_like_imports_and_classes(self):
        def check(path, tree):
            taken = {node.name for node in tree.body if isinstance(node, ast.ClassDef)}
            for node in tree.body:
                if isinstance(node, ast.ImportFrom):
                    taken.update(alias.name for alias in node.names)
            for node in ast.walk(tree):
                if isinstance(node, ast.arg):
                    self.assertNotIn(node.arg, taken)
                if isinstance(node, ast.Name) and isinstance(node.ctx, ast.Store):
                    self.assertNotIn(node.id, taken)
        self.each_file(check)

    def test_no_method_is_a_value_of_another_class(self):
        methods = []
        values = set()

        def gather(node):
            if isinstance(node, ast.ClassDef):
                own = [inner.name for inner in node.body if isinstance(inner, ast.FunctionDef)]
                self.assertEqual(len(own), len(set(own)))
                methods.extend(own)
            if isinstance(node, ast.Attribute) and isinstance(node.ctx, ast.Store):
                values.add(node.attr)
        self.each_node(gather)
        self.assertFalse(values.intersection(methods))
        for kind in (str, int, list, dict, set, bytes, tuple):
            for name in values.union(methods) - DUNDERS:
                self.assertFalse(hasattr(kind, name), name)

    def test_texts_with_names_in_them(self):
        def check(node):
            if isinstance(node, ast.FormattedValue):
                self.assertIsInstance(node.value, ast.Name)
                self.assertIn(node.conversion, (-1, ord("r")))
                self.assertIsNone(node.format_spec)
        self.each_node(check)

    def test_powers_texts_and_is(self):
        def check(node):
            if isinstance(node, (ast.BinOp, ast.AugAssign)) and isinstance(node.op, ast.Pow):
                exponent = node.right if isinstance(node, ast.BinOp) else node.value
                self.assertIsInstance(exponent, ast.Constant)
                self.assertIn(exponent.value, range(65))
            if isinstance(node, ast.Constant) and isinstance(node.value, str):
                self.assertNotIn("%", node.value)
            if isinstance(node, ast.Compare):
                for op, right in zip(node.ops, node.comparators):
                    if isinstance(op, (ast.Is, ast.IsNot)):
                        self.assertIsInstance(right, ast.Constant)
                        self.assertIn(right.value, (None, True, False))
        self.each_node(check)


if __name__ == "__main__":
    unittest.main()
