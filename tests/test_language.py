"""The part of Python that the package keeps to: those of its rules that a walk over the files can see.

A rule that isn't looked at here, or only in part (most of L15, L19, L22 to L24 and L28), still holds.
"""

import ast
import builtins
import pathlib
import re
import unittest

PACKAGE = pathlib.Path(__file__).resolve().parent.parent / "endnever"

# L6 and L7: what may stand in a file at all.
KINDS = """Module Expr Assign AugAssign AnnAssign If While For Return Break Continue Pass Raise Try ExceptHandler
    Assert Delete FunctionDef ClassDef ImportFrom alias arguments arg keyword Lambda Call Attribute Name Load Store Del
    Constant List Tuple Dict Set Subscript Slice Starred ListComp DictComp SetComp comprehension JoinedStr
    FormattedValue BinOp Add Sub Mult FloorDiv Mod Pow LShift RShift BitAnd BitOr BitXor UnaryOp USub Not Invert
    BoolOp And Or Compare Eq NotEq Lt LtE Gt GtE In NotIn Is IsNot IfExp""".split()

# L8: the names of Python's own.
OWN = """len range enumerate zip min max sum abs sorted reversed int str bool bytes list tuple dict set frozenset
    isinstance ord repr any all divmod Exception ValueError TypeError KeyError IndexError LookupError
    ZeroDivisionError ArithmeticError OverflowError RuntimeError NotImplementedError AttributeError
    StopIteration""".split()

# L5: the methods with two underscores.
UNDERSCORED = ["__init__", "__eq__", "__repr__", "__str__", "__len__"]

# L17: the words that stand nowhere, and the names that aren't used.
WORDS = """type typing typing_extensions enum Enum IntEnum StrEnum Flag IntFlag Generic Protocol ABC ABCMeta
    namedtuple NamedTuple TypedDict TYPE_CHECKING abstractmethod""".split()
PARTS = ["dataclass", "overload", "contextmanager"]
UNUSED = """register mro elements open input version_info with_traceback add_note attrgetter breakpoint builtins
    compile copyright credits delattr dir eval exec exit gc getattr globals hasattr help id importlib license locals
    methodcaller os quit setattr super type vars format format_map sys""".split()

# L25: the methods of Python's own values.
METHODS = """append clear copy count endswith extend find get index insert isalnum isalpha isdigit islower isspace
    isupper items join keys ljust lower lstrip partition pop remove replace reverse rfind rjust rpartition rsplit
    rstrip setdefault split splitlines startswith strip update upper values zfill bit_length title capitalize swapcase
    casefold center expandtabs removeprefix removesuffix rindex isascii isdecimal isnumeric istitle isidentifier
    isprintable encode decode hex fromhex to_bytes from_bytes translate maketrans sort add discard""".split()


def files():
    return sorted(PACKAGE.rglob("*.py"))


def nodes(path, *kinds):
    return [node for node in ast.walk(ast.parse(path.read_text())) if isinstance(node, kinds)]


def methods_of(path):
    return [part.name for box in nodes(path, ast.ClassDef) for part in box.body if isinstance(part, ast.FunctionDef)]


def values_of(path):
    return [node.attr for node in nodes(path, ast.Attribute) if isinstance(node.ctx, ast.Store)]


def given_names(path):
    """All names that a file gives to something, anywhere in it."""
    told = [node.id for node in nodes(path, ast.Name) if isinstance(node.ctx, ast.Store)]
    told += [node.name for node in nodes(path, ast.FunctionDef, ast.ClassDef)]
    told += [node.arg for node in nodes(path, ast.arg)]
    told += [node.asname or node.name for node in nodes(path, ast.alias)]
    return told + [node.name for node in nodes(path, ast.ExceptHandler) if node.name]


def top_names(path):
    """The names that a file itself binds at its top."""
    told = []
    for node in ast.parse(path.read_text()).body:
        if isinstance(node, (ast.FunctionDef, ast.ClassDef)):
            told.append(node.name)
        elif isinstance(node, ast.Assign):
            told += [target.id for target in node.targets]
    return told


class Language(unittest.TestCase):

    def test_files_and_sizes(self):
        for path in files():
            text = path.read_text()
            self.assertRegex(path.name, r"^[a-z0-9_]+\.py$")
            self.assertRegex(text, r"\A[ -~\n]*\Z", path.name)
            self.assertLessEqual(len(text.splitlines()), 400, path.name)
            self.assertLessEqual(max(len(line) for line in text.splitlines()), 120, path.name)
            for node in nodes(path, ast.FunctionDef):
                self.assertLessEqual(node.end_lineno - node.lineno + 1, 40, node.name)
        strays = [path for path in PACKAGE.rglob("*") if path.is_file() and path.suffix not in (".py", ".pyc")]
        self.assertEqual(strays, [])

    def test_only_the_kinds_that_are_let_by(self):
        for path in files():
            for node in nodes(path, ast.AST):
                self.assertIn(node.__class__.__name__, KINDS, f"{path.name} {getattr(node, 'lineno', '')}")

    def test_imports(self):
        for path in files():
            top = [node for node in ast.parse(path.read_text()).body if isinstance(node, ast.ImportFrom)]
            self.assertEqual(len(top), len(nodes(path, ast.ImportFrom)), path.name)
            for node in top:
                self.assertEqual(node.level, 0)
                self.assertTrue(node.module.startswith("endnever."), node.module)
                source = PACKAGE.parent / (node.module.replace(".", "/") + ".py")
                for drawn in node.names:
                    self.assertIn(drawn.name, top_names(source), f"{path.name} draws {drawn.name}")

    def test_no_two_files_draw_from_one_another(self):
        draws = {f"endnever.{path.stem}": [node.module for node in nodes(path, ast.ImportFrom)] for path in files()}
        while draws:
            free = [name for name in draws if not any(other in draws for other in draws[name])]
            self.assertNotEqual(free, [], sorted(draws))
            for name in free:
                del draws[name]

    def test_walked_at_once(self):
        walkers = ("zip", "range", "enumerate", "reversed")
        for path in files():
            for node in nodes(path, ast.Assign, ast.Return):
                kept = isinstance(node.value, ast.Call) and isinstance(node.value.func, ast.Name)
                self.assertFalse(kept and node.value.func.id in walkers, f"{path.name} {node.lineno}")

    def test_powers_are_written(self):
        for path in files():
            for node in nodes(path, ast.BinOp):
                if isinstance(node.op, ast.Pow):
                    self.assertIsInstance(node.right, ast.Constant, f"{path.name} {node.lineno}")

    def test_defs_and_classes_are_plain(self):
        for path in files():
            for node in nodes(path, ast.FunctionDef, ast.ClassDef):
                self.assertEqual(node.decorator_list, [], node.name)
            for node in nodes(path, ast.arguments):
                self.assertTrue(node.vararg is None and node.kwarg is None and not node.posonlyargs, path.name)
            for node in nodes(path, ast.ClassDef):
                self.assertLessEqual(len(node.bases), 1, node.name)
                for part in node.body:
                    words = isinstance(part, ast.Expr) and isinstance(part.value, ast.Constant)
                    self.assertTrue(words or isinstance(part, (ast.FunctionDef, ast.Pass)), node.name)
            for node in nodes(path, ast.For, ast.While):
                self.assertEqual(node.orelse, [], path.name)

    def test_names(self):
        for path in files():
            for name in given_names(path):
                self.assertTrue(name in UNDERSCORED or not name.startswith("_"), name)
                self.assertNotIn(name, UNUSED)
            drawn = [node.asname or node.name for node in nodes(path, ast.alias)]
            boxes = [node.name for node in nodes(path, ast.ClassDef)]
            locals_too = [node.id for node in nodes(path, ast.Name) if isinstance(node.ctx, ast.Store)]
            for name in locals_too + [node.arg for node in nodes(path, ast.arg)]:
                self.assertNotIn(name, drawn + boxes + dir(builtins), path.name)
            known = given_names(path) + OWN
            for node in nodes(path, ast.Name):
                self.assertIn(node.id, known, f"{path.name} {node.lineno}")

    def test_words_that_stand_nowhere(self):
        for path in files():
            text = path.read_text()
            self.assertEqual([word for word in re.findall(r"\w+", text) if word in WORDS], [], path.name)
            self.assertEqual([part for part in PARTS if part in text], [], path.name)
            for node in nodes(path, ast.Constant):
                self.assertNotIsInstance(node.value, (float, complex))
                self.assertFalse(isinstance(node.value, str) and "%" in node.value, path.name)

    def test_methods_and_values(self):
        methods = [name for path in files() for name in methods_of(path)]
        values = [name for path in files() for name in values_of(path)]
        self.assertEqual([name for name in values if name in methods], [])
        for path in files():
            for node in nodes(path, ast.Attribute):
                self.assertIn(node.attr, METHODS + methods + values, f"{path.name} {node.lineno}")

    def test_is_stands_beside_none_and_truths_alone(self):
        for path in files():
            for node in nodes(path, ast.Compare):
                for sign, right in zip(node.ops, node.comparators):
                    if isinstance(sign, (ast.Is, ast.IsNot)):
                        self.assertIsInstance(right, ast.Constant)
                        self.assertTrue(right.value is None or isinstance(right.value, bool), path.name)


if __name__ == "__main__":
    unittest.main()
