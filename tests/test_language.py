"""The package keeps to the small part of Python that LANGUAGE.md tells (L1 to L28)."""

import ast
import builtins
import pathlib
import re
import unittest

PACKAGE = pathlib.Path(__file__).resolve().parent.parent / "hideworth"
FILES = sorted(path for path in PACKAGE.rglob("*") if "__pycache__" not in path.parts and path.is_file())

ERRORS = set("""Exception ValueError TypeError KeyError IndexError LookupError ZeroDivisionError ArithmeticError
    OverflowError RuntimeError NotImplementedError AttributeError StopIteration""".split())
CALLS = set("""len range enumerate zip min max sum abs sorted reversed int str bool list tuple dict set frozenset
    isinstance ord repr any all divmod""".split())
METHODS = set("""append clear copy count endswith extend find get index insert isalnum isalpha isdigit islower isspace
    isupper items join keys ljust lower lstrip partition pop remove replace reverse rfind rjust rpartition rsplit rstrip
    setdefault split splitlines startswith strip update upper values zfill bit_length""".split())
NEVER = set("""register mro elements open input version_info with_traceback add_note format format_map attrgetter
    breakpoint builtins compile copyright credits delattr dir eval exec exit gc getattr globals hasattr help id
    importlib license locals methodcaller os quit setattr super vars chr print""".split())
WORDS = re.compile(r"\b(type|typing|typing_extensions|enum|Enum|IntEnum|StrEnum|Flag|IntFlag|Generic|Protocol|ABC"
                   r"|ABCMeta|namedtuple|NamedTuple|TypedDict|TYPE_CHECKING|abstractmethod)\b"
                   r"|dataclass|overload|contextmanager")
NODES = (
    ast.Module, ast.Expr, ast.ImportFrom, ast.alias, ast.FunctionDef, ast.arguments, ast.arg, ast.ClassDef, ast.Assign,
    ast.AugAssign, ast.If, ast.While, ast.For, ast.Return, ast.Break, ast.Continue, ast.Pass, ast.Raise, ast.Try,
    ast.ExceptHandler, ast.Lambda, ast.Constant, ast.Name, ast.Attribute, ast.Subscript, ast.Slice, ast.Call,
    ast.keyword, ast.List, ast.Tuple, ast.Dict, ast.BinOp, ast.UnaryOp, ast.BoolOp, ast.Compare, ast.IfExp,
    ast.ListComp, ast.comprehension, ast.JoinedStr, ast.FormattedValue, ast.expr_context, ast.operator, ast.unaryop,
    ast.boolop, ast.cmpop,
)
DUNDERS = {"__init__", "__eq__", "__repr__", "__str__", "__len__"}
KEYWORDS = {"sorted": {"key", "reverse"}, "min": {"key", "default"}, "max": {"key", "default"}, "sum": {"start"},
            "enumerate": {"start"}, "zip": {"strict"}}
WALKED = {"zip", "enumerate", "reversed", "range", "items", "keys", "values"}
WALKERS = {"list", "tuple", "dict", "sorted", "sum", "any", "all", "enumerate", "zip", "min", "max"}


def tree_of(path):
    return ast.parse(path.read_text(encoding="utf-8"))


def nodes(path, *kinds):
    return [node for node in ast.walk(tree_of(path)) if isinstance(node, kinds)]


def name_of(node):
    return node.id if isinstance(node, ast.Name) else None


def bound_names(function):
    names = [arg.arg for arg in function.args.args]
    for node in ast.walk(function):
        if isinstance(node, ast.Name) and isinstance(node.ctx, ast.Store):
            names.append(node.id)
        if isinstance(node, ast.Lambda):
            names.extend(arg.arg for arg in node.args.args)
    return names


def each_file(check):
    def test(self):
        for path in FILES:
            with self.subTest(path.name):
                check(self, path)

    return test


class Language(unittest.TestCase):
    def test_the_package(self):
        self.assertIn(PACKAGE / "__init__.py", FILES)

    @each_file
    def test_files(self, path):
        self.assertEqual(path.parent, PACKAGE)
        self.assertRegex(path.name, r"\A([a-z][a-z0-9_]*|__init__|__main__)\.py\Z")
        self.assertNotIn(path.stem, set(dir(builtins)) | {"test", "tests", "testing", "site", "conftest"})

    @each_file
    def test_signs_and_sizes(self, path):
        text = path.read_text(encoding="utf-8")
        self.assertTrue(set(text) <= set(map(chr, range(32, 127))) | {"\n"})
        rows = text.splitlines()
        self.assertLessEqual(len(rows), 400)
        self.assertLessEqual(max(map(len, rows)), 120)
        for node in nodes(path, ast.FunctionDef):
            self.assertLessEqual(node.end_lineno - node.lineno + 1, 40, node.name)

    @each_file
    def test_words(self, path):
        self.assertIsNone(WORDS.search(path.read_text(encoding="utf-8")))

    @each_file
    def test_kinds_of_nodes(self, path):
        for node in nodes(path, ast.AST):
            self.assertIsInstance(node, NODES)
            self.assertNotIsInstance(node, (ast.Div, ast.MatMult))

    @each_file
    def test_statements(self, path):
        tree = tree_of(path)
        for node in tree.body[1:]:
            self.assertIsInstance(node, (ast.ImportFrom, ast.FunctionDef, ast.ClassDef, ast.Assign))
        self.assertIsNotNone(ast.get_docstring(tree))
        for node in ast.walk(tree):
            if isinstance(node, ast.Assign):
                self.assertEqual(len(node.targets), 1)
            if isinstance(node, (ast.For, ast.While)):
                self.assertEqual(node.orelse, [])
            if isinstance(node, ast.Try):
                self.assertEqual(node.finalbody, [])
            if isinstance(node, ast.Expr) and node is not tree.body[0]:
                self.assertIsInstance(node.value, ast.Call)
            if isinstance(node, ast.ListComp):
                self.assertEqual(len(node.generators), 1)
                self.assertLessEqual(len(node.generators[0].ifs), 1)

    @each_file
    def test_values(self, path):
        for node in nodes(path, ast.Constant):
            self.assertIn(type(node.value), (int, str, bool, type(None)))
            if isinstance(node.value, str):
                self.assertNotIn("%", node.value)
        for node in nodes(path, ast.BinOp):
            if isinstance(node.op, ast.Pow):
                self.assertIsInstance(node.right, ast.Constant)
        for node in nodes(path, ast.Compare):
            for operator, side in zip(node.ops, node.comparators):
                if isinstance(operator, (ast.Is, ast.IsNot)):
                    self.assertIn(getattr(side, "value", 0), (None, True, False))

    @each_file
    def test_functions_and_classes(self, path):
        for node in nodes(path, ast.FunctionDef):
            args = node.args
            self.assertEqual((node.decorator_list, args.vararg, args.kwarg, args.kwonlyargs), ([], None, None, []))
            self.assertIsNone(node.returns)
            self.assertTrue(all(arg.annotation is None for arg in args.args))
        for node in nodes(path, ast.ClassDef):
            self.assertEqual((node.decorator_list, node.keywords), ([], []))
            self.assertLessEqual(len(node.bases), 1)
            for part in node.body:
                self.assertIsInstance(part, (ast.FunctionDef, ast.Pass))

    @each_file
    def test_names(self, path):
        tree = tree_of(path)
        tops = [node for node in tree.body if isinstance(node, (ast.FunctionDef, ast.ClassDef))]
        given = [node.targets[0].id for node in tree.body if isinstance(node, ast.Assign)]
        drawn = [part.name for node in nodes(path, ast.ImportFrom) for part in node.names]
        own = [node.name for node in tops] + given + drawn
        self.assertEqual(len(own), len(set(own)), "a name is bound twice")
        closed = set(drawn) | {node.name for node in tops if isinstance(node, ast.ClassDef)} | set(dir(builtins))
        locals_of = [name for node in nodes(path, ast.FunctionDef) for name in bound_names(node)]
        self.assertFalse(set(locals_of) & closed)
        self.assertFalse((set(own) - set(drawn)) & set(dir(builtins)))
        walked = {node.id for node in nodes(path, ast.Name) if isinstance(node.ctx, ast.Store)}
        walked |= {node.name for node in nodes(path, ast.ExceptHandler) if node.name}
        self.assertFalse(walked & closed)
        known = set(own) | set(locals_of) | walked | CALLS | ERRORS
        for node in nodes(path, ast.Name):
            self.assertIn(node.id, known)
            self.assertNotIn(node.id, NEVER)
            self.assertRegex(node.id, r"\A[A-Za-z]\w*\Z")
        for node in nodes(path, ast.FunctionDef):
            self.assertTrue(node.name in DUNDERS or not node.name.startswith("_"))

    @each_file
    def test_attributes_and_calls(self, path):
        own = {part.name for file in FILES for node in nodes(file, ast.ClassDef) for part in node.body
               if isinstance(part, ast.FunctionDef)}
        kept = {node.attr for file in FILES for node in nodes(file, ast.Attribute) if isinstance(node.ctx, ast.Store)}
        self.assertFalse(own & kept, "a method in one class, a value in another")
        for node in nodes(path, ast.Attribute):
            self.assertNotIn(node.attr, NEVER)
            self.assertIn(node.attr, own | kept | METHODS)
        for node in nodes(path, ast.Call):
            if isinstance(node.func, ast.Attribute):
                self.assertIn(node.func.attr, own | METHODS)
            words = {keyword.arg for keyword in node.keywords}
            self.assertLessEqual(words, KEYWORDS.get(name_of(node.func), set()))

    @each_file
    def test_sets_are_asked_on_the_spot(self, path):
        tree = tree_of(path)
        good = set()
        for node in ast.walk(tree):
            if isinstance(node, ast.Compare):
                good |= {id(part) for side in [node.left] + node.comparators for part in ast.walk(side)}
            if isinstance(node, ast.Call) and name_of(node.func) in ("sorted", "len"):
                good |= {id(part) for part in ast.walk(node.args[0])}
        for node in ast.walk(tree):
            if isinstance(node, ast.Call) and name_of(node.func) in ("set", "frozenset"):
                self.assertIn(id(node), good)

    @each_file
    def test_walked_on_the_spot(self, path):
        tree = tree_of(path)
        good = {id(node.iter) for node in ast.walk(tree) if isinstance(node, (ast.For, ast.comprehension))}
        for node in ast.walk(tree):
            if isinstance(node, ast.Call) and name_of(node.func) in WALKERS and node.args:
                good.add(id(node.args[0]))
        for node in ast.walk(tree):
            if isinstance(node, ast.Call) and (name_of(node.func) or getattr(node.func, "attr", None)) in WALKED:
                self.assertIn(id(node), good)

    @each_file
    def test_imports(self, path):
        self.assertEqual(nodes(path, ast.Import), [])
        for node in nodes(path, ast.ImportFrom):
            self.assertEqual((node.level, node.module.split(".")[0]), (0, "hideworth"))
            body = tree_of(PACKAGE / (node.module.split(".")[1] + ".py")).body
            defined = {part.name for part in body if isinstance(part, (ast.FunctionDef, ast.ClassDef))}
            defined |= {part.targets[0].id for part in body if isinstance(part, ast.Assign)}
            self.assertLessEqual({part.name for part in node.names}, defined)

    def test_no_two_files_draw_from_one_another(self):
        draws = {path.stem: {node.module.split(".")[1] for node in nodes(path, ast.ImportFrom)} for path in FILES}
        while draws:
            free = [name for name in draws if not draws[name] & set(draws)]
            self.assertTrue(free, sorted(draws))
            draws = {name: behind for name, behind in draws.items() if name not in free}

    @each_file
    def test_errors_taken(self, path):
        for node in nodes(path, ast.ExceptHandler):
            self.assertIsNotNone(node.type)
            self.assertNotIn(name_of(node.type), ("Exception", "TypeError"))


if __name__ == "__main__":
    unittest.main()
