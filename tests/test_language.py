"""Holds the package's files to what can be seen at once of the rules L1 to L28."""

import ast
import builtins
import pathlib
import re
import unittest

ROOT = pathlib.Path(__file__).resolve().parent.parent
FILES = sorted((ROOT / "balepress").rglob("*.py"))

STATEMENTS = (ast.FunctionDef, ast.ClassDef, ast.ImportFrom, ast.Assign, ast.AugAssign, ast.If, ast.While, ast.For,
              ast.Return, ast.Break, ast.Continue, ast.Pass, ast.Raise, ast.Try, ast.Expr)
EXPRESSIONS = (ast.Constant, ast.List, ast.Tuple, ast.Dict, ast.Name, ast.BinOp, ast.UnaryOp, ast.BoolOp, ast.Compare,
               ast.IfExp, ast.Call, ast.Attribute, ast.Subscript, ast.Slice, ast.ListComp, ast.Lambda, ast.JoinedStr,
               ast.FormattedValue)
BUILT_IN = """len range enumerate zip min max sum abs sorted reversed int str bool list tuple dict set frozenset
    isinstance ord repr any all divmod ValueError KeyError IndexError LookupError ZeroDivisionError Exception
    ArithmeticError OverflowError RuntimeError NotImplementedError StopIteration""".split()
OWN_METHODS_OF_PYTHON = """append clear copy count endswith extend find get index insert isalnum isalpha isdigit
    islower isspace isupper items join keys ljust lower lstrip partition pop remove replace reverse rfind rjust
    rpartition rsplit rstrip setdefault split splitlines startswith strip update upper values zfill
    bit_length""".split()
WORDS = r"""\b(type|typing|typing_extensions|enum|Enum|IntEnum|StrEnum|Flag|IntFlag|Generic|Protocol|ABC|ABCMeta|
    namedtuple|NamedTuple|TypedDict|TYPE_CHECKING|abstractmethod)\b|dataclass|overload|contextmanager"""
UNUSED = "register mro elements open input version_info with_traceback add_note format format_map".split()


def nodes_of(kind):
    return [(path, node) for path in FILES for node in ast.walk(ast.parse(path.read_text())) if isinstance(node, kind)]


def kept_and_called():
    methods, values = set(), set()
    for path, cls in nodes_of(ast.ClassDef):
        methods |= {node.name for node in cls.body if isinstance(node, ast.FunctionDef)}
    for path, node in nodes_of(ast.Attribute):
        if isinstance(node.ctx, ast.Store):
            values.add(node.attr)
    return methods, values


def top_names(path):
    """The names that a file binds at its top, in order, imports apart."""
    names = []
    for node in ast.parse(path.read_text()).body:
        if isinstance(node, (ast.FunctionDef, ast.ClassDef)):
            names.append(node.name)
        elif isinstance(node, ast.Assign):
            names += [target.id for target in node.targets]
    return names


def imports_of(path):
    return [node for node in ast.parse(path.read_text()).body if isinstance(node, ast.ImportFrom)]


def file_of(module):
    return ROOT / (module.replace(".", "/") + ".py")


def drawn_from(path):
    """All files that a file draws from, in whatever many steps."""
    found, waiting = set(), [path]
    while waiting:
        for node in imports_of(waiting.pop()):
            if file_of(node.module) not in found:
                found.add(file_of(node.module))
                waiting.append(file_of(node.module))
    return found


class LanguageTest(unittest.TestCase):
    def test_files(self):
        self.assertTrue(FILES)
        for path in (ROOT / "balepress").rglob("*"):
            if "__pycache__" not in path.parts:
                self.assertRegex(path.name, r"^[a-z0-9_]+\.py$")

    def test_lines(self):
        for path in FILES:
            text = path.read_bytes().decode("ascii")
            self.assertRegex(text, r"^[ -~\n]*$")
            self.assertIsNone(re.search(WORDS, text, re.VERBOSE), path)
            self.assertLessEqual(len(text.splitlines()), 400, path)
            self.assertLessEqual(max(map(len, text.splitlines()), default=0), 120, path)

    def test_only_allowed_forms(self):
        for path, node in nodes_of(ast.stmt):
            self.assertIsInstance(node, STATEMENTS, (path, node.lineno))
        for path, node in nodes_of(ast.expr):
            self.assertIsInstance(node, EXPRESSIONS, (path, node.lineno))
            if isinstance(node, ast.Constant):
                self.assertIn(type(node.value), (int, str, bool, type(None)), (path, node.lineno))

    def test_imports(self):
        for path, node in nodes_of(ast.ImportFrom):
            self.assertEqual(node.level, 0)
            self.assertTrue(node.module.startswith("balepress."), (path, node.lineno))
            for name in node.names:
                self.assertNotEqual(name.name, "*")

    def test_imports_from_the_defining_file_and_in_no_ring(self):
        for path in FILES:
            self.assertNotIn(path, drawn_from(path))
            for node in imports_of(path):
                for name in node.names:
                    self.assertIn(name.name, top_names(file_of(node.module)), (path, node.lineno))

    def test_each_name_once(self):
        for path in FILES:
            imported = [name.name for node in imports_of(path) for name in node.names]
            names = top_names(path) + imported
            self.assertEqual(len(names), len(set(names)), path)
            classes = [node.name for node in ast.parse(path.read_text()).body if isinstance(node, ast.ClassDef)]
            for node in ast.walk(ast.parse(path.read_text())):
                bound = node.arg if isinstance(node, ast.arg) else ""
                if isinstance(node, ast.Name) and isinstance(node.ctx, ast.Store):
                    bound = node.id
                self.assertNotIn(bound, classes + imported, path)

    def test_handlers(self):
        for path, node in nodes_of(ast.ExceptHandler):
            self.assertIsInstance(node.type, ast.Name, (path, node.lineno))
            self.assertIn(node.type.id, top_names(ROOT / "balepress" / "errors.py"), (path, node.lineno))
        for path, node in nodes_of(ast.Raise):
            self.assertIsInstance(node.exc, ast.Call, (path, node.lineno))

    def test_one_plain_target(self):
        for path, node in nodes_of(ast.Assign):
            self.assertEqual(len(node.targets), 1, (path, node.lineno))
            self.assertIsInstance(node.targets[0], (ast.Name, ast.Attribute, ast.Subscript), (path, node.lineno))

    def test_classes_are_only_called_or_named(self):
        names = [node.name for path, node in nodes_of(ast.ClassDef)]
        for path in FILES:
            tree = ast.parse(path.read_text())
            placed = []
            for node in ast.walk(tree):
                if isinstance(node, ast.Call):
                    placed.append(node.func)
                    if isinstance(node.func, ast.Attribute) and node.func.attr == "__init__":
                        placed.append(node.func.value)
                    if isinstance(node.func, ast.Name) and node.func.id == "isinstance":
                        placed += list(ast.walk(node.args[1]))
                elif isinstance(node, ast.ClassDef):
                    placed += node.bases
                elif isinstance(node, ast.ExceptHandler):
                    placed.append(node.type)
            for node in ast.walk(tree):
                if isinstance(node, ast.Name) and node.id in names:
                    self.assertIn(node, placed, (path, node.lineno))

    def test_no_docstring_or_value_by_itself_below_the_top(self):
        for path in FILES:
            tree = ast.parse(path.read_text())
            for node in ast.walk(tree):
                if isinstance(node, ast.Expr) and node is not tree.body[0]:
                    self.assertIsInstance(node.value, ast.Call, (path, node.lineno))

    def test_functions(self):
        for path, node in nodes_of(ast.FunctionDef):
            self.assertLessEqual(node.end_lineno - node.lineno + 1, 40, (path, node.lineno))
            self.assertEqual(node.decorator_list, [])
            self.assertIsNone(node.args.vararg or node.args.kwarg or (node.args.kwonlyargs or None))

    def test_classes(self):
        for path, node in nodes_of(ast.ClassDef):
            self.assertLessEqual(len(node.bases), 1)
            for inner in node.body:
                self.assertIsInstance(inner, (ast.FunctionDef, ast.Pass), (path, node.lineno))

    def test_names(self):
        for path, node in nodes_of(ast.Name):
            if hasattr(builtins, node.id):
                self.assertIn(node.id, BUILT_IN, (path, node.lineno))
                self.assertIsInstance(node.ctx, ast.Load, (path, node.lineno))
            self.assertFalse(node.id.startswith("_") or node.id in UNUSED, (path, node.lineno))
        for path, node in nodes_of(ast.arg):
            self.assertFalse(hasattr(builtins, node.arg) or node.arg.startswith("_"), (path, node.lineno))

    def test_attributes(self):
        methods, values = kept_and_called()
        self.assertEqual(methods & values, set())
        for path, node in nodes_of(ast.Attribute):
            self.assertNotIn(node.attr, UNUSED)
            self.assertIn(node.attr, methods | values | set(OWN_METHODS_OF_PYTHON), (path, node.lineno))

    def test_own_methods_and_values_are_not_named_like_those_of_python(self):
        methods, values = kept_and_called()
        taken = {name for kind in (str, int, list, dict, set, bytes) for name in dir(kind)}
        with_underscores = {"__init__", "__eq__", "__repr__", "__str__", "__len__"}
        self.assertEqual(methods & taken - set(OWN_METHODS_OF_PYTHON) - {"add", "discard"} - with_underscores, set())
        free = set("count index title find get join lower upper split strip copy add".split())
        self.assertEqual(values & taken - free, set())

    def test_values_at_the_top_are_plain(self):
        for path in FILES:
            for node in ast.parse(path.read_text()).body:
                if isinstance(node, ast.Assign):
                    for inner in ast.walk(node.value):
                        self.assertIsInstance(inner, (ast.Constant, ast.Tuple, ast.List, ast.Dict, ast.Load), path)

    def test_defaults_are_plain(self):
        for path, node in nodes_of(ast.arguments):
            for default in node.defaults:
                self.assertIsInstance(default, ast.Constant, path)

    def test_comprehensions_and_texts(self):
        for path, node in nodes_of(ast.ListComp):
            self.assertEqual(len(node.generators), 1, (path, node.lineno))
            self.assertLessEqual(len(node.generators[0].ifs), 1, (path, node.lineno))
        for path, node in nodes_of(ast.FormattedValue):
            self.assertIsInstance(node.value, ast.Name, (path, node.lineno))
        for path, node in nodes_of(ast.Constant):
            self.assertNotIn("%", str(node.value), (path, node.lineno))

    def test_keywords_at_names_of_python(self):
        known = {"sorted": ["key", "reverse"], "min": ["key", "default"], "max": ["key", "default"], "sum": ["start"],
                 "enumerate": ["start"], "zip": ["strict"]}
        for path, node in nodes_of(ast.Call):
            if isinstance(node.func, ast.Name) and hasattr(builtins, node.func.id):
                for keyword in node.keywords:
                    self.assertIn(keyword.arg, known.get(node.func.id, []), (path, node.lineno))

    def test_sets_are_not_used(self):
        for path, node in nodes_of(ast.Name):
            self.assertNotIn(node.id, ("set", "frozenset"), (path, node.lineno))

    def test_operators(self):
        for path, node in nodes_of(ast.BinOp):
            self.assertNotIsInstance(node.op, (ast.Div, ast.MatMult), (path, node.lineno))
            if isinstance(node.op, ast.Pow):
                self.assertIsInstance(node.right, ast.Constant, (path, node.lineno))
        for path, node in nodes_of(ast.Compare):
            for operator, side in zip(node.ops, node.comparators):
                if isinstance(operator, (ast.Is, ast.IsNot)):
                    self.assertIn(ast.unparse(side), ("None", "True", "False"), (path, node.lineno))


if __name__ == "__main__":
    unittest.main()
