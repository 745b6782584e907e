"""The rules of the program's language that can be seen in a file by itself."""

import ast
import builtins
import pathlib
import re
import unittest

PACKAGE = pathlib.Path(__file__).resolve().parent.parent / "rocksamples"

OWN_NAMES = set(
    "len range enumerate zip min max sum abs sorted reversed int str bool list tuple dict set frozenset isinstance "
    "ord repr any all divmod Exception ValueError TypeError KeyError IndexError LookupError ZeroDivisionError "
    "ArithmeticError OverflowError RuntimeError NotImplementedError AttributeError StopIteration".split())
OWN_METHODS = set(
    "append clear copy count endswith extend find get index insert isalnum isalpha isdigit islower isspace isupper "
    "items join keys ljust lower lstrip partition pop remove replace reverse rfind rjust rpartition rsplit rstrip "
    "setdefault split splitlines startswith strip update upper values zfill bit_length".split())
BARRED_NAMES = set(
    "register mro elements open input version_info with_traceback add_note attrgetter breakpoint builtins compile "
    "copyright credits delattr dir eval exec exit gc getattr globals hasattr help id importlib license locals "
    "methodcaller os quit setattr super type vars sys format format_map".split())
BARRED_WORDS = re.compile(
    r"\b(type|typing|typing_extensions|enum|Enum|IntEnum|StrEnum|Flag|IntFlag|Generic|Protocol|ABC|ABCMeta|namedtuple|"
    r"NamedTuple|TypedDict|TYPE_CHECKING|abstractmethod)\b|dataclass|overload|contextmanager")
STATEMENTS = (
    ast.Module, ast.FunctionDef, ast.ClassDef, ast.ImportFrom, ast.Assign, ast.AugAssign, ast.If, ast.While, ast.For,
    ast.Return, ast.Break, ast.Continue, ast.Pass, ast.Raise, ast.Try, ast.Expr)
BARRED_EXPRESSIONS = (
    ast.SetComp, ast.DictComp, ast.GeneratorExp, ast.NamedExpr, ast.Starred, ast.Yield, ast.YieldFrom, ast.Await,
    ast.Div, ast.MatMult, ast.Set)


def files():
    return sorted(PACKAGE.rglob("*.py"))


def nodes(kind):
    for path in files():
        for node in ast.walk(ast.parse(path.read_text())):
            if isinstance(node, kind):
                yield path.name, node


def is_call(node):
    return isinstance(node.value, ast.Call)


class Language(unittest.TestCase):
    def test_nothing_else_lies_in_the_package(self):
        for path in PACKAGE.rglob("*"):
            if "__pycache__" not in path.parts:
                self.assertTrue(path.is_dir() or re.fullmatch(r"[a-z][a-z0-9_]*\.py|__init__\.py", path.name), path)

    def test_sizes_and_signs(self):
        for path in files():
            text = path.read_text()
            self.assertIsNone(re.search(r"[^ -~\n]", text), path)
            self.assertIsNone(BARRED_WORDS.search(text), path)
            self.assertLessEqual(len(text.splitlines()), 400, path)
            self.assertLessEqual(max(len(line) for line in text.splitlines()), 120, path)

    def test_functions(self):
        for name, node in nodes(ast.FunctionDef):
            self.assertLessEqual(node.end_lineno - node.lineno + 1, 40, (name, node.name))
            self.assertEqual(node.decorator_list, [], (name, node.name))
            self.assertIsNone(node.args.vararg or node.args.kwarg, (name, node.name))
            self.assertEqual(node.args.kwonlyargs, [], (name, node.name))
            self.assertTrue(node.name == "__init__" or re.fullmatch(r"[a-z][a-z0-9_]*", node.name), (name, node.name))

    def test_statements(self):
        for name, node in nodes(ast.stmt):
            self.assertIsInstance(node, STATEMENTS, (name, node.lineno))
            self.assertEqual(getattr(node, "finalbody", []), [], (name, node.lineno))
            if isinstance(node, (ast.For, ast.While)):
                self.assertEqual(node.orelse, [], (name, node.lineno))
            if isinstance(node, ast.Assign):
                self.assertEqual(len(node.targets), 1, (name, node.lineno))
            if isinstance(node, ast.Expr) and node.lineno != 1:
                self.assertTrue(is_call(node), (name, node.lineno))

    def test_expressions(self):
        for name, node in nodes(BARRED_EXPRESSIONS):
            self.fail((name, ast.dump(node)))
        for name, node in nodes(ast.Constant):
            self.assertNotIsInstance(node.value, (float, complex, bytes), (name, node.lineno))

    def test_imports(self):
        for name, node in nodes(ast.ImportFrom):
            self.assertTrue(node.module.startswith("rocksamples."), (name, node.lineno))
            self.assertEqual(node.level, 0, (name, node.lineno))
            self.assertNotIn("*", [alias.name for alias in node.names])

    def test_names_of_pythons_own(self):
        for name, node in nodes(ast.Name):
            self.assertNotIn(node.id, BARRED_NAMES, (name, node.lineno))
            if hasattr(builtins, node.id):
                self.assertIn(node.id, OWN_NAMES, (name, node.lineno))
                self.assertIsInstance(node.ctx, ast.Load, (name, node.lineno))
        for name, node in nodes(ast.arg):
            self.assertFalse(hasattr(builtins, node.arg), (name, node.lineno))
            self.assertNotIn(node.arg, BARRED_NAMES, (name, node.lineno))

    def test_methods(self):
        own = {node.name for name, node in nodes(ast.FunctionDef)}
        kept = {node.attr for name, node in nodes(ast.Attribute) if isinstance(node.ctx, ast.Store)}
        self.assertEqual(own & kept, set())
        for name, node in nodes(ast.Attribute):
            self.assertNotIn(node.attr, BARRED_NAMES, (name, node.lineno))
            self.assertIn(node.attr, OWN_METHODS | own | kept, (name, node.lineno))


if __name__ == "__main__":
    unittest.main()
