"""The package keeps to the small part of Python that it is written in, as far as a reading of its files tells."""

import ast
import builtins
import pathlib
import re
import unittest

PACKAGE = pathlib.Path(__file__).resolve().parent.parent / "lackstretch"

OWN_NAMES = set("""len range enumerate zip min max sum abs sorted reversed int str bool list tuple dict set frozenset
isinstance ord repr any all divmod Exception ValueError TypeError KeyError IndexError LookupError ZeroDivisionError
ArithmeticError OverflowError RuntimeError NotImplementedError AttributeError StopIteration""".split())
METHODS = set("""append clear copy count endswith extend find get index insert isalnum isalpha isdigit islower isspace
isupper items join keys ljust lower lstrip partition pop remove replace reverse rfind rjust rpartition rsplit rstrip
setdefault split splitlines startswith strip update upper values zfill bit_length""".split())
WORDS = """type typing typing_extensions enum Enum IntEnum StrEnum Flag IntFlag Generic Protocol ABC ABCMeta namedtuple
NamedTuple TypedDict TYPE_CHECKING abstractmethod""".split()
DUNDERS = {"__init__", "__eq__", "__repr__", "__str__", "__len__"}
NODES = """Module FunctionDef ClassDef Return Assign AugAssign For While If Raise Try ExceptHandler ImportFrom Expr Pass
Break Continue BoolOp BinOp UnaryOp Lambda IfExp Dict ListComp comprehension Compare Call FormattedValue JoinedStr
Constant Attribute Subscript Name List Tuple Slice arguments arg keyword alias Load Store And Or Add Sub Mult FloorDiv
Mod Pow LShift RShift BitOr BitXor BitAnd Not USub UAdd Invert Eq NotEq Lt LtE Gt GtE Is IsNot In NotIn""".split()


def files():
    return sorted(path for path in PACKAGE.rglob("*") if path.is_file() and "__pycache__" not in path.parts)


def trees():
    return [(path.name, ast.parse(path.read_text(encoding="utf-8"))) for path in files()]


def walk(kind):
    for name, tree in trees():
        for node in ast.walk(tree):
            if isinstance(node, kind):
                yield f"{name}:{getattr(node, 'lineno', 0)}", node


class Language(unittest.TestCase):
    def test_files(self):
        self.assertTrue(files())
        for path in files():
            self.assertRegex(path.name, r"^([a-z][a-z0-9_]*|__init__|__main__)\.py$")
            text = path.read_text(encoding="utf-8")
            self.assertRegex(text, r"^[\n -~]*\Z", path.name)
            self.assertLessEqual(len(text.splitlines()), 400, path.name)
            self.assertLessEqual(max(len(row) for row in text.splitlines()), 120, path.name)

    def test_words(self):
        for path in files():
            text = path.read_text(encoding="utf-8")
            self.assertIsNone(re.search(r"\b(" + "|".join(WORDS) + r")\b|dataclass|overload|contextmanager", text))

    def test_nodes(self):
        for place, node in walk(ast.AST):
            self.assertIn(type(node).__name__, NODES, place)

    def test_constants(self):
        for place, node in walk(ast.Constant):
            self.assertIn(type(node.value), (int, str, bool, type(None)), place)
            if isinstance(node.value, str):
                self.assertNotIn("%", node.value, place)

    def test_functions(self):
        for place, node in walk(ast.FunctionDef):
            self.assertLessEqual(node.end_lineno - node.lineno + 1, 40, place)
            self.assertFalse(node.decorator_list, place)
            told = node.args
            self.assertFalse(told.vararg or told.kwarg or told.kwonlyargs or told.posonlyargs, place)
            self.assertTrue(node.name in DUNDERS or not node.name.startswith("_"), place)
            for each in told.args:
                self.assertFalse(hasattr(builtins, each.arg) or each.arg.startswith("_"), place)

    def test_names(self):
        for place, node in walk(ast.Name):
            self.assertFalse(node.id.startswith("_"), place)
            if isinstance(node.ctx, ast.Store):
                self.assertFalse(hasattr(builtins, node.id), place)
            elif hasattr(builtins, node.id):
                self.assertIn(node.id, OWN_NAMES, place)

    def test_methods(self):
        own = {node.name for _, node in walk(ast.FunctionDef)}
        for place, node in walk(ast.Call):
            if isinstance(node.func, ast.Attribute):
                self.assertIn(node.func.attr, METHODS | own | {"__init__"}, place)

    def test_imports(self):
        for place, node in walk(ast.ImportFrom):
            self.assertEqual(node.level, 0, place)
            self.assertTrue(node.module.startswith("lackstretch."), place)
            path = PACKAGE / (node.module.split(".", 1)[1].replace(".", "/") + ".py")
            top = ast.parse(path.read_text(encoding="utf-8")).body
            made = {each.name for each in top if isinstance(each, (ast.FunctionDef, ast.ClassDef))}
            made |= {each.targets[0].id for each in top if isinstance(each, ast.Assign)}
            for alias in node.names:
                self.assertIn(alias.name, made, place)

    def test_forms(self):
        for place, node in walk((ast.For, ast.While)):
            self.assertFalse(node.orelse, place)
        for place, node in walk(ast.Try):
            self.assertFalse(node.finalbody, place)
        for place, node in walk(ast.Assign):
            self.assertEqual(len(node.targets), 1, place)
        for place, node in walk(ast.ListComp):
            self.assertEqual(len(node.generators), 1, place)
            self.assertLessEqual(len(node.generators[0].ifs), 1, place)
        for place, node in walk(ast.Compare):
            for sign, right in zip(node.ops, node.comparators):
                if isinstance(sign, (ast.Is, ast.IsNot)):
                    self.assertTrue(isinstance(right, ast.Constant) and right.value in (None, True, False), place)
        for place, node in walk(ast.BinOp):
            if isinstance(node.op, ast.Pow):
                self.assertTrue(isinstance(node.right, ast.Constant) and 0 <= node.right.value <= 64, place)


if __name__ == "__main__":
    unittest.main()
