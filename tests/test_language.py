"""The package keeps to LANGUAGE.md: those of its rules that are plainly seen in the files."""

import ast
import builtins
import pathlib
import re
import unittest

PACKAGE = pathlib.Path(__file__).resolve().parent.parent / "hungwords"
FILES = sorted(PACKAGE.glob("*.py"))

NODES = set("""
    Module Expr Constant ImportFrom alias FunctionDef ClassDef arguments arg Name Load Store Del Attribute Subscript
    Slice Call keyword Return Assign AugAssign If While For Break Continue Pass Raise Try ExceptHandler Assert Delete
    BinOp Add Sub Mult FloorDiv Mod Pow LShift RShift BitAnd BitOr BitXor UnaryOp USub Not BoolOp And Or Compare Eq
    NotEq Lt LtE Gt GtE Is IsNot In NotIn IfExp Lambda List Tuple Dict Set ListComp DictComp SetComp comprehension
    JoinedStr FormattedValue
""".split())
PYTHONS = set("""
    len range enumerate zip min max sum abs sorted reversed int str bool bytes list tuple dict set isinstance ord repr
    any all divmod Exception ValueError TypeError KeyError IndexError LookupError ZeroDivisionError ArithmeticError
    OverflowError RuntimeError NotImplementedError AttributeError StopIteration
""".split())
METHODS = set("""
    append clear copy count endswith extend find get index insert isalnum isalpha isdigit islower isspace isupper items
    join keys ljust lower lstrip partition pop remove replace reverse rfind rjust rpartition rsplit rstrip setdefault
    split splitlines startswith strip update upper values zfill bit_length add discard sort
""".split())
NOT_WRITTEN = re.compile(
    r"\b(type|typing|typing_extensions|enum|Enum|IntEnum|StrEnum|Flag|IntFlag|Generic|Protocol|ABC|ABCMeta|namedtuple"
    r"|NamedTuple|TypedDict|TYPE_CHECKING|abstractmethod)\b|dataclass|overload|contextmanager"
)
NOT_NAMED = set("""
    register mro elements open input version_info with_traceback add_note attrgetter breakpoint builtins compile
    copyright credits delattr dir eval exec exit gc getattr globals hasattr help id importlib license locals
    methodcaller os quit setattr super sys vars format format_map
""".split())
PLAIN_NAME = re.compile(r"[A-Za-z][A-Za-z0-9_]*\Z")
# What makes no list of its own, and those that may be handed it.
WALKED = {"zip", "enumerate", "reversed", "range", "items", "keys", "values"}
WALKERS = {"list", "tuple", "dict", "sorted", "sum", "any", "all", "enumerate", "zip", "min", "max"}


def called(node):
    """The name of what is called, or of the method."""
    return getattr(node.func, "id", getattr(node.func, "attr", None))


def parsed(path):
    return ast.parse(path.read_text(encoding="utf-8"))


def nodes(kind):
    for path in FILES:
        for node in ast.walk(parsed(path)):
            if isinstance(node, kind):
                yield path.name, node


def bound_names(tree):
    """The names that a file binds, at its top or within: defs, classes, parameters, locals, drawn ones."""
    found = set()
    for node in ast.walk(tree):
        if isinstance(node, (ast.FunctionDef, ast.ClassDef)):
            found.add(node.name)
        elif isinstance(node, ast.arg):
            found.add(node.arg)
        elif isinstance(node, ast.Name) and isinstance(node.ctx, ast.Store):
            found.add(node.id)
        elif isinstance(node, ast.alias):
            found.add(node.asname or node.name)
        elif isinstance(node, ast.ExceptHandler) and node.name:
            found.add(node.name)
    return found


def own_names(tree):
    """The names of a file's top that it gives itself."""
    found = [part.name for part in tree.body if isinstance(part, (ast.FunctionDef, ast.ClassDef))]
    return found + [part.targets[0].id for part in tree.body if isinstance(part, ast.Assign)]


def methods_and_values():
    """The names of all methods, and of all values that are given to an object, in the package."""
    methods, values = set(), set()
    for _, node in nodes(ast.ClassDef):
        methods |= {part.name for part in node.body if isinstance(part, ast.FunctionDef)}
    for _, node in nodes(ast.Attribute):
        if isinstance(node.ctx, ast.Store):
            values.add(node.attr)
    return methods, values


class LanguageTest(unittest.TestCase):
    def test_files(self):
        others = [path for path in PACKAGE.iterdir() if path not in FILES and path.name != "__pycache__"]
        self.assertEqual(others, [])
        for path in FILES:
            self.assertRegex(path.name, r"\A([a-z][a-z0-9_]*|__init__)\.py\Z")

    def test_signs_sizes_and_words(self):
        for path in FILES:
            text = path.read_text(encoding="utf-8")
            self.assertRegex(text, r"\A[ -~\n]*\Z", path.name)
            self.assertIsNone(NOT_WRITTEN.search(text), path.name)
            self.assertLessEqual(len(text.splitlines()), 400)
            self.assertLessEqual(max(len(row) for row in text.splitlines()), 120)
        for name, node in nodes(ast.FunctionDef):
            self.assertLessEqual(node.end_lineno - node.lineno + 1, 40, (name, node.name))

    def test_statements_and_expressions(self):
        for name, node in nodes(ast.AST):
            self.assertIn(node.__class__.__name__, NODES, (name, getattr(node, "lineno", None)))
            if isinstance(node, ast.Constant):
                self.assertNotIsInstance(node.value, (float, complex))
            if isinstance(node, (ast.For, ast.While)):
                self.assertEqual(node.orelse, [])
            if isinstance(node, (ast.FunctionDef, ast.ClassDef)):
                self.assertEqual(node.decorator_list, [])
            if isinstance(node, ast.arguments):
                self.assertEqual((node.vararg, node.kwarg, node.posonlyargs), (None, None, []))

    def test_imports(self):
        for name, node in nodes(ast.ImportFrom):
            self.assertEqual(node.level, 0, name)
            source = PACKAGE / (node.module.removeprefix("hungwords.") + ".py")
            for drawn in node.names:
                self.assertIn(drawn.name, own_names(parsed(source)), name)

    def test_the_top_of_a_file(self):
        for path in FILES:
            tree = parsed(path)
            self.assertEqual(len(own_names(tree)), len(set(own_names(tree))), path.name)
            defs = set()
            for at, part in enumerate(tree.body):
                if isinstance(part, ast.FunctionDef):
                    defs.add(part.name)
                elif isinstance(part, ast.Assign):
                    self.assertEqual([target.__class__ for target in part.targets], [ast.Name], path.name)
                    for node in ast.walk(part.value):
                        self.assertIsInstance(node, (ast.Constant, ast.Dict, ast.Tuple, ast.List, ast.Name, ast.Load))
                        self.assertTrue(not isinstance(node, ast.Name) or node.id in defs, path.name)
                        # No list or dict holds another one.
                        within = list(ast.iter_child_nodes(node)) if isinstance(node, (ast.Dict, ast.List)) else []
                        self.assertFalse(any(isinstance(inner, (ast.Dict, ast.List)) for inner in within))
                elif not isinstance(part, (ast.ImportFrom, ast.ClassDef)):
                    self.assertEqual((at, ast.get_docstring(tree, clean=False)), (0, part.value.value), path.name)

    def test_names(self):
        pythons = set(dir(builtins))
        for path in FILES:
            tree = parsed(path)
            bound = bound_names(tree)
            for name in bound - {"__init__"}:
                self.assertRegex(name, PLAIN_NAME, path.name)
                self.assertNotIn(name, pythons | NOT_NAMED, path.name)
            for node in ast.walk(tree):
                if isinstance(node, ast.Name):
                    self.assertTrue(node.id in bound or node.id in PYTHONS, (path.name, node.id, node.lineno))

    def test_methods_and_values(self):
        methods, values = methods_and_values()
        self.assertEqual(methods & values, set())
        for name, node in nodes(ast.Attribute):
            self.assertIn(node.attr, methods | values | METHODS, (name, node.lineno))
        for own in (methods | values) - {"__init__"}:
            self.assertRegex(own, PLAIN_NAME)
            self.assertNotIn(own, NOT_NAMED)
            for python in (str, int, list, dict, set, bytes, tuple):
                self.assertFalse(hasattr(python, own), own)

    def test_is_stands_beside_none_true_and_false_alone(self):
        for name, node in nodes(ast.Compare):
            for sign, right in zip(node.ops, node.comparators):
                if isinstance(sign, (ast.Is, ast.IsNot)):
                    self.assertIsInstance(right, ast.Constant, (name, node.lineno))
                    self.assertIn(repr(right.value), ("None", "True", "False"))

    def test_what_is_walked_at_once(self):
        for path in FILES:
            tree = parsed(path)
            walked = set()
            for node in ast.walk(tree):
                if isinstance(node, (ast.For, ast.comprehension)):
                    walked.add(node.iter)
                elif isinstance(node, ast.Call) and isinstance(node.func, ast.Name) and node.func.id in WALKERS:
                    walked |= set(node.args if node.func.id == "zip" else node.args[:1])
                elif isinstance(node, ast.Call) and called(node) == "reversed":
                    walked |= {part for part in node.args if isinstance(part, ast.Call) and called(part) == "range"}
                elif isinstance(node, ast.Compare) and isinstance(node.ops[0], (ast.In, ast.NotIn)):
                    walked |= set(node.comparators)
            for node in ast.walk(tree):
                if isinstance(node, ast.Call) and called(node) in WALKED:
                    self.assertTrue(node in walked, (path.name, node.lineno))

    def test_no_parameter_or_local_is_called_like_an_import_or_a_class(self):
        for path in FILES:
            tree = parsed(path)
            taken = {part.asname or part.name for node in tree.body if isinstance(node, ast.ImportFrom)
                     for part in node.names}
            taken |= {node.name for node in tree.body if isinstance(node, ast.ClassDef)}
            for node in ast.walk(tree):
                if isinstance(node, ast.arg):
                    self.assertNotIn(node.arg, taken, path.name)
                elif isinstance(node, ast.Name) and isinstance(node.ctx, ast.Store):
                    self.assertNotIn(node.id, taken, path.name)

    def test_no_two_files_draw_from_one_another(self):
        drawn = {}
        for path in FILES:
            names = [node.module for node in ast.walk(parsed(path)) if isinstance(node, ast.ImportFrom)]
            drawn[path.stem] = {name.removeprefix("hungwords.") for name in names}
        while drawn:
            free = [name for name, others in drawn.items() if not others & set(drawn)]
            self.assertNotEqual(free, [], sorted(drawn))
            for name in free:
                del drawn[name]

    def test_exponents_are_written(self):
        for name, node in nodes(ast.BinOp):
            if isinstance(node.op, ast.Pow):
                self.assertIsInstance(node.right, ast.Constant, (name, node.lineno))
                self.assertIn(node.right.value, range(65))

    def test_errors_are_the_programs_own(self):
        own = own_names(parsed(PACKAGE / "errors.py"))
        for name, node in nodes(ast.Raise):
            self.assertIsInstance(node.exc, ast.Call, (name, node.lineno))
            self.assertIn(called(node.exc), own, (name, node.lineno))
        for name, node in nodes(ast.ExceptHandler):
            self.assertIn(node.type.id, own, (name, node.lineno))

    def test_sets_are_not_walked_or_handed_on(self):
        for path in FILES:
            tree = parsed(path)
            right = set()
            for node in ast.walk(tree):
                if isinstance(node, ast.Call) and called(node) in ("sorted", "len"):
                    right |= set(node.args)
                elif isinstance(node, ast.Assign):
                    right.add(node.value)
                elif isinstance(node, ast.Compare):
                    right |= set(node.comparators)
            for node in ast.walk(tree):
                if isinstance(node, (ast.Set, ast.SetComp)) or isinstance(node, ast.Call) and called(node) == "set":
                    self.assertTrue(node in right, (path.name, node.lineno))

    def test_own_defs_are_handed_what_they_take(self):
        for path in FILES:
            tree = parsed(path)
            takes = {part.name: len(part.args.args) for part in tree.body if isinstance(part, ast.FunctionDef)}
            for node in tree.body:
                if isinstance(node, ast.ImportFrom):
                    source = parsed(PACKAGE / (node.module.removeprefix("hungwords.") + ".py"))
                    drawn = [part.name for part in node.names]
                    takes |= {part.name: len(part.args.args) for part in source.body
                              if isinstance(part, ast.FunctionDef) and part.name in drawn}
            for node in ast.walk(tree):
                if isinstance(node, ast.Call) and isinstance(node.func, ast.Name) and node.func.id in takes:
                    self.assertEqual(len(node.args), takes[node.func.id], (path.name, node.lineno))
