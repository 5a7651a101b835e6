"""Holds the package's files against a part of LANGUAGE.md: each test names the rows of which it sees something.

Not looked at: L9, L11, L13, L22, L23, L24, L26; of L15, L18, L19 and L28 only a little.
"""

import ast
import builtins
import pathlib
import re
import unittest

PACKAGE = pathlib.Path(__file__).resolve().parent.parent / "landroll"

CALLED = set(
    "len range enumerate zip min max sum abs sorted reversed int str bool list tuple dict set frozenset isinstance ord"
    " repr any all divmod".split()
)
ERRORS = set(
    "Exception ValueError TypeError KeyError IndexError LookupError ZeroDivisionError ArithmeticError OverflowError"
    " RuntimeError NotImplementedError AttributeError StopIteration".split()
)
METHODS = set(
    "append clear copy count endswith extend find get index insert isalnum isalpha isdigit islower isspace isupper"
    " items join keys ljust lower lstrip partition pop remove replace reverse rfind rjust rpartition rsplit rstrip"
    " setdefault split splitlines startswith strip update upper values zfill bit_length".split()
)
UNDERSCORED = {"__init__", "__eq__", "__repr__", "__str__", "__len__"}
NO_NAMES = set(
    "register mro elements open input version_info with_traceback add_note attrgetter breakpoint builtins compile"
    " copyright credits delattr dir eval exec exit gc getattr globals hasattr help id importlib license locals"
    " methodcaller os quit setattr super type vars sys chr print".split()
)
NO_WORDS = re.compile(
    r"\b(type|typing|typing_extensions|enum|Enum|IntEnum|StrEnum|Flag|IntFlag|Generic|Protocol|ABC|ABCMeta|namedtuple"
    r"|NamedTuple|TypedDict|TYPE_CHECKING|abstractmethod)\b|dataclass|overload|contextmanager"
)
NODES = (
    ast.Module, ast.ImportFrom, ast.alias, ast.FunctionDef, ast.arguments, ast.arg, ast.ClassDef, ast.Lambda,
    ast.Assign, ast.AugAssign, ast.If, ast.While, ast.For, ast.Return, ast.Break, ast.Continue, ast.Pass, ast.Raise,
    ast.Try, ast.ExceptHandler, ast.Expr, ast.Call, ast.keyword, ast.Attribute, ast.Subscript, ast.Slice, ast.Name,
    ast.Constant, ast.List, ast.Tuple, ast.Dict, ast.Set, ast.ListComp, ast.comprehension, ast.IfExp, ast.BoolOp,
    ast.BinOp, ast.UnaryOp, ast.Compare, ast.JoinedStr, ast.FormattedValue, ast.expr_context, ast.boolop, ast.operator,
    ast.unaryop, ast.cmpop,
)


def files():
    return sorted(PACKAGE.glob("*.py"))


def tree_of(path):
    return ast.parse(path.read_text(encoding="utf-8"))


def top_names(tree):
    told = []
    for node in tree.body:
        if isinstance(node, (ast.FunctionDef, ast.ClassDef)):
            told.append(node.name)
        elif isinstance(node, ast.Assign):
            told.append(node.targets[0].id)
    return told


def imported(tree):
    return [alias.name for node in tree.body if isinstance(node, ast.ImportFrom) for alias in node.names]


def bound(function):
    """The parameters and locals of a function."""
    told = [node.arg for node in ast.walk(function) if isinstance(node, ast.arg)]
    for node in ast.walk(function):
        if isinstance(node, ast.Name) and isinstance(node.ctx, ast.Store):
            told.append(node.id)
        if isinstance(node, ast.ExceptHandler) and node.name:
            told.append(node.name)
    return told


def is_plain(node):
    if isinstance(node, (ast.List, ast.Tuple)):
        return all(is_plain(part) for part in node.elts)
    if isinstance(node, ast.Dict):
        return all(is_plain(part) for part in node.keys + node.values)
    if isinstance(node, ast.UnaryOp):
        return is_plain(node.operand)
    if isinstance(node, ast.BinOp):
        return is_plain(node.left) and is_plain(node.right)
    return isinstance(node, (ast.Constant, ast.Name))


def classes_of(tree):
    return [node for node in tree.body if isinstance(node, ast.ClassDef)]


def methods_of(node):
    return [part.name for part in node.body if isinstance(part, ast.FunctionDef)]


class Form(unittest.TestCase):
    def each(self, kinds, check):
        """Checks each node of these kinds, with its file's tree, telling file and line where it is amiss."""
        for path in files():
            tree = tree_of(path)
            for node in ast.walk(tree):
                if isinstance(node, kinds):
                    with self.subTest(file=path.name, line=getattr(node, "lineno", 0)):
                        check(tree, node)

    def test_files(self):
        """L1, L14."""
        names = [path.name for path in PACKAGE.iterdir() if path.name != "__pycache__"]
        self.assertIn("__init__.py", names)
        for name in names:
            self.assertRegex(name, r"^([a-z][a-z0-9_]*|__init__|__main__)\.py$")
            self.assertNotIn(name[:-3], dir(builtins))

    def test_signs_and_sizes(self):
        """L10, L14, L17."""
        def check(tree, node):
            self.assertLessEqual(node.end_lineno - node.lineno + 1, 40)

        self.each(ast.FunctionDef, check)
        for path in files():
            text = path.read_text(encoding="utf-8")
            with self.subTest(file=path.name):
                self.assertRegex(text, r"\A[ -~\n]*\Z")
                self.assertIsNone(NO_WORDS.search(text))
                self.assertLessEqual(len(text.splitlines()), 400)
                self.assertLessEqual(max(len(line) for line in text.splitlines()), 120)

    def test_tops(self):
        """L3, L15: each name once, plain values alone."""
        def check(tree, module):
            names = top_names(tree) + imported(tree)
            self.assertEqual(len(names), len(set(names)))
            for place, node in enumerate(module.body):
                if isinstance(node, ast.Expr):
                    self.assertEqual(place, 0)
                    self.assertIsInstance(node.value.value, str)
                elif isinstance(node, ast.Assign):
                    self.assertTrue(is_plain(node.value))
                else:
                    self.assertIsInstance(node, (ast.ImportFrom, ast.FunctionDef, ast.ClassDef))

        self.each(ast.Module, check)

    def test_imports(self):
        """L2, L16: at the top, from the file that defines the name."""
        def check(tree, node):
            self.assertIn(node, tree.body)
            self.assertEqual(node.level, 0)
            self.assertRegex(node.module, r"^landroll\.[a-z0-9_]+$")
            source = tree_of(PACKAGE / (node.module.split(".")[1] + ".py"))
            for alias in node.names:
                self.assertIsNone(alias.asname)
                self.assertIn(alias.name, top_names(source))

        self.each(ast.ImportFrom, check)

    def test_no_two_files_draw_from_one_another(self):
        """L16."""
        draws = {}
        for path in files():
            froms = [node for node in tree_of(path).body if isinstance(node, ast.ImportFrom)]
            draws["landroll." + path.stem] = [node.module for node in froms]
        while draws:
            free = [name for name in draws if not set(draws[name]) & set(draws)]
            self.assertTrue(free, sorted(draws))
            draws = {name: draws[name] for name in draws if name not in free}

    def test_functions(self):
        """L4, L12, L15, L21."""
        def check(tree, node):
            told = node.args
            self.assertFalse(told.vararg or told.kwarg or told.kwonlyargs or told.posonlyargs)
            self.assertTrue(all(is_plain(value) for value in told.defaults))
            self.assertFalse(any(arg.annotation for arg in told.args))
            if isinstance(node, ast.FunctionDef):
                self.assertEqual(node.decorator_list, [])
                self.assertIsNone(node.returns)
            taken = [part.name for part in classes_of(tree)] + imported(tree)
            for name in bound(node):
                self.assertNotIn(name, dir(builtins))
                self.assertNotIn(name, taken)
                self.assertRegex(name, r"^[A-Za-z][A-Za-z0-9_]*$")

        self.each((ast.FunctionDef, ast.Lambda), check)

    def test_classes(self):
        """L5, L18."""
        def check(tree, node):
            self.assertIn(node, tree.body)
            self.assertLessEqual(len(node.bases), 1)
            self.assertEqual(node.decorator_list + node.keywords, [])
            for part in node.body:
                self.assertIsInstance(part, (ast.FunctionDef, ast.Pass))
            names = methods_of(node)
            self.assertEqual(len(names), len(set(names)))
            for name in names:
                self.assertTrue(name in UNDERSCORED or not name.startswith("_"), name)

        self.each(ast.ClassDef, check)

    def test_no_name_is_a_method_and_a_value(self):
        """L18."""
        methods, values = set(), set()
        for path in files():
            for node in classes_of(tree_of(path)):
                methods.update(methods_of(node))
                for part in ast.walk(node):
                    if isinstance(part, ast.Attribute) and isinstance(part.ctx, ast.Store):
                        values.add(part.attr)
        self.assertEqual(methods & values, set())

    def test_only_the_told_statements_and_expressions(self):
        """L6, L7."""
        def check(tree, node):
            self.assertIsInstance(node, NODES)
            self.assertNotIsInstance(node, (ast.Div, ast.MatMult))
            if isinstance(node, (ast.For, ast.While)):
                self.assertEqual(node.orelse, [])
            if isinstance(node, ast.Try):
                self.assertEqual(node.finalbody, [])
            if isinstance(node, ast.Assign):
                self.assertEqual(len(node.targets), 1)
                self.assertIsInstance(node.targets[0], (ast.Name, ast.Attribute, ast.Subscript))
            if isinstance(node, ast.Expr) and not isinstance(node.value, ast.Constant):
                self.assertIsInstance(node.value, ast.Call)
            if isinstance(node, ast.ListComp):
                self.assertEqual(len(node.generators), 1)
                self.assertLessEqual(len(node.generators[0].ifs), 1)

        self.each(ast.AST, check)

    def test_names(self):
        """L8, L12, L17."""
        def check(tree, node):
            self.assertNotIn(node.id, NO_NAMES)
            self.assertRegex(node.id, r"^[A-Za-z][A-Za-z0-9_]*$")
            if node.id in dir(builtins):
                self.assertIn(node.id, CALLED | ERRORS)

        self.each(ast.Name, check)

    def test_methods(self):
        """L8, L17, L25, L28: own methods, Python's from the list alone, and a base's __init__."""
        own = {name for path in files() for node in classes_of(tree_of(path)) for name in methods_of(node)}

        def check(tree, node):
            if isinstance(node, ast.Attribute):
                self.assertNotIn(node.attr, NO_NAMES | {"format", "format_map", "args"})
            elif isinstance(node.func, ast.Attribute):
                self.assertIn(node.func.attr, METHODS | own | {"__init__"})

        self.each((ast.Attribute, ast.Call), check)

    def test_is_stands_beside_none_and_truths(self):
        """L20."""
        def check(tree, node):
            for sign, thing in zip(node.ops, node.comparators):
                if isinstance(sign, (ast.Is, ast.IsNot)):
                    self.assertIn(ast.unparse(thing), ("None", "True", "False"))

        self.each(ast.Compare, check)

    def test_errors_taken(self):
        """L19."""
        def check(tree, node):
            self.assertIsNotNone(node.type)
            self.assertNotIn(ast.unparse(node.type), ("Exception", "TypeError"))

        self.each(ast.ExceptHandler, check)

    def test_numbers_and_texts(self):
        """L7, L27."""
        def check(tree, node):
            if isinstance(node, ast.Constant):
                self.assertIn(type(node.value), (int, str, bool, type(None)))
                self.assertNotIn("%", str(node.value))
            elif isinstance(node.op, ast.Pow):
                self.assertIn(ast.unparse(node.right), [str(number) for number in range(65)])

        self.each((ast.Constant, ast.BinOp), check)


if __name__ == "__main__":
    unittest.main()
