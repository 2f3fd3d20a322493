"""The rules of form that a machine can read off a file; the rest is for the eye."""
import ast
import builtins
import pathlib
import re
import unittest

PACKAGE = pathlib.Path(__file__).resolve().parent.parent / "evenrounds"

NODES = """Module Import ImportFrom alias FunctionDef arguments arg ClassDef Lambda Assign AugAssign If While For Return
Break Continue Pass Raise Try ExceptHandler Expr Call Attribute Subscript Slice Name Load Store Constant List Tuple Dict
Set ListComp comprehension BinOp UnaryOp BoolOp Compare IfExp JoinedStr FormattedValue keyword Add Sub Mult FloorDiv Mod
Pow BitAnd BitOr BitXor LShift RShift Invert USub UAdd Not And Or Eq NotEq Lt LtE Gt GtE Is IsNot In NotIn""".split()

OWN_NAMES = """len range enumerate zip min max sum abs sorted reversed int str bool list tuple dict set frozenset
isinstance ord repr any all divmod Exception ValueError TypeError KeyError IndexError LookupError ZeroDivisionError
ArithmeticError OverflowError RuntimeError NotImplementedError AttributeError StopIteration""".split()

METHODS = """append clear copy count endswith extend find get index insert isalnum isalpha isdigit islower isspace
isupper items join keys ljust lower lstrip partition pop remove replace reverse rfind rjust rpartition rsplit rstrip
setdefault split splitlines startswith strip update upper values zfill bit_length""".split()

WORDS = """type typing typing_extensions enum Enum IntEnum StrEnum Flag IntFlag Generic Protocol ABC ABCMeta namedtuple
NamedTuple TypedDict TYPE_CHECKING abstractmethod""".split()


def entries():
    return [path for path in sorted(PACKAGE.rglob("*")) if "__pycache__" not in path.parts]


def files():
    return [(path.name, path.read_text(encoding="utf-8")) for path in entries() if path.suffix == ".py"]


def nodes():
    for name, text in files():
        for node in ast.walk(ast.parse(text)):
            yield f"{name}:{getattr(node, 'lineno', 0)}", node


def bound_names(node):
    if isinstance(node, (ast.FunctionDef, ast.ClassDef)):
        return [node.name]
    if isinstance(node, ast.arg):
        return [node.arg]
    if isinstance(node, ast.Name) and isinstance(node.ctx, ast.Store):
        return [node.id]
    return []


class Form(unittest.TestCase):
    def test_files(self):
        self.assertIn(PACKAGE / "__init__.py", entries())
        for path in entries():
            self.assertRegex(path.name, r"^([a-z][a-z0-9_]*|__init__|__main__)\.py$")

    def test_signs_and_size(self):
        for name, text in files():
            with self.subTest(name):
                self.assertRegex(text, r"^[ -~\n]*\Z")
                self.assertLessEqual(len(text.splitlines()), 400)
                self.assertLessEqual(max(len(line) for line in text.splitlines()), 120)

    def test_words(self):
        for name, text in files():
            with self.subTest(name):
                self.assertEqual(set(re.findall(r"\w+", text)) & set(WORDS), set())
                self.assertNotRegex(text, "dataclass|overload|contextmanager")

    def test_nodes(self):
        for place, node in nodes():
            self.assertIn(node.__class__.__name__, NODES, place)

    def test_imports(self):
        for place, node in nodes():
            self.assertNotIsInstance(node, ast.Import, place)
            if isinstance(node, ast.ImportFrom):
                self.assertEqual(node.level, 0, place)
                self.assertRegex(node.module, r"^evenrounds\.[a-z]", place)

    def test_functions(self):
        for place, node in nodes():
            if isinstance(node, ast.FunctionDef):
                self.assertLessEqual(node.end_lineno - node.lineno + 1, 40, place)
                self.assertEqual(node.decorator_list, [], place)
                self.assertFalse(node.args.vararg or node.args.kwarg or node.args.kwonlyargs, place)

    def test_names(self):
        for place, node in nodes():
            for name in bound_names(node):
                self.assertRegex(name, r"^([A-Za-z][A-Za-z0-9_]*|__(init|eq|repr|str|len)__)$", place)
                self.assertFalse(hasattr(builtins, name), f"{place} {name}")
            if isinstance(node, ast.Name) and hasattr(builtins, node.id):
                self.assertIn(node.id, OWN_NAMES, place)

    def test_methods(self):
        own = [node.name for place, node in nodes() if isinstance(node, ast.FunctionDef)]
        for place, node in nodes():
            if isinstance(node, ast.Call) and isinstance(node.func, ast.Attribute):
                self.assertIn(node.func.attr, METHODS + own, place)

    def test_values(self):
        for place, node in nodes():
            if isinstance(node, ast.Constant):
                self.assertIn(node.value.__class__.__name__, ["int", "str", "bool", "NoneType"], place)
            if isinstance(node, ast.Assign):
                self.assertEqual(len(node.targets), 1, place)
            if isinstance(node, (ast.For, ast.While)):
                self.assertEqual(node.orelse, [], place)


if __name__ == "__main__":
    unittest.main()
