"""The rules of the language that a walk over the package's files can see."""

import ast
import builtins
import re
import unittest
from pathlib import Path

PACKAGE = Path(__file__).resolve().parent.parent / "piecebooks"
FILES = sorted(PACKAGE.rglob("*.py"))

OWN_NAMES = set(
    "len range enumerate zip min max sum abs sorted reversed int str bool list tuple dict set frozenset isinstance ord "
    "repr any all divmod Exception ValueError TypeError KeyError IndexError LookupError ZeroDivisionError "
    "ArithmeticError OverflowError RuntimeError NotImplementedError AttributeError StopIteration".split()
)
METHODS = set(
    "append clear copy count endswith extend find get index insert isalnum isalpha isdigit islower isspace isupper "
    "items join keys ljust lower lstrip partition pop remove replace reverse rfind rjust rpartition rsplit rstrip "
    "setdefault split splitlines startswith strip update upper values zfill bit_length".split()
)
NODES = set(
    "Module FunctionDef arguments arg ClassDef Lambda Return Assign AugAssign For While If Raise Try ExceptHandler "
    "ImportFrom alias Expr Pass Break Continue BoolOp BinOp UnaryOp IfExp Dict Set ListComp comprehension Compare Call "
    "keyword JoinedStr FormattedValue Constant Attribute Subscript Name List Tuple Slice Load Store And Or Add Sub "
    "Mult FloorDiv Mod Pow LShift RShift BitOr BitXor BitAnd Invert Not UAdd USub Eq NotEq Lt LtE Gt GtE Is IsNot In "
    "NotIn".split()
)
WORDS = re.compile(
    r"\b(type|typing|typing_extensions|enum|Enum|IntEnum|StrEnum|Flag|IntFlag|Generic|Protocol|ABC|ABCMeta|namedtuple"
    r"|NamedTuple|TypedDict|TYPE_CHECKING|abstractmethod)\b|dataclass|overload|contextmanager"
)


def trees():
    return [(path.relative_to(PACKAGE), ast.parse(path.read_text("utf-8"))) for path in FILES]


def bound_names(tree):
    names = set()
    for node in ast.walk(tree):
        if isinstance(node, (ast.FunctionDef, ast.ClassDef)):
            names.add(node.name)
        elif isinstance(node, ast.arg):
            names.add(node.arg)
        elif isinstance(node, ast.Name) and isinstance(node.ctx, ast.Store):
            names.add(node.id)
        elif isinstance(node, ast.alias):
            names.add(node.asname or node.name)
        elif isinstance(node, ast.ExceptHandler) and node.name:
            names.add(node.name)
    return names


def top_names(node):
    if isinstance(node, (ast.FunctionDef, ast.ClassDef)):
        return [node.name]
    if isinstance(node, ast.Assign):
        return [target.id for target in node.targets]
    return []


class Form(unittest.TestCase):
    def test_only_plain_files(self):
        self.assertTrue(FILES)
        for path in PACKAGE.rglob("*"):
            if "__pycache__" not in path.parts:
                with self.subTest(path=path.name):
                    self.assertRegex(path.name, r"^([a-z][a-z0-9_]*|__init__|__main__)\.py$")

    def test_signs_and_words(self):
        for path in FILES:
            text = path.read_text("utf-8")
            with self.subTest(path=path.name):
                self.assertRegex(text, r"\A[ -~\n]*\Z")
                self.assertIsNone(WORDS.search(text))

    def test_sizes(self):
        for path in FILES:
            lines = path.read_text("utf-8").split("\n")
            with self.subTest(path=path.name):
                self.assertLessEqual(len(lines), 400)
                self.assertLessEqual(max(len(line) for line in lines), 120)
        for path, tree in trees():
            for node in ast.walk(tree):
                if isinstance(node, (ast.FunctionDef, ast.Lambda)):
                    with self.subTest(path=path, line=node.lineno):
                        self.assertLessEqual(node.end_lineno - node.lineno + 1, 40)

    def test_kinds_of_statements_and_expressions(self):
        for path, tree in trees():
            for node in ast.walk(tree):
                with self.subTest(path=path, line=getattr(node, "lineno", 0)):
                    self.assertIn(type(node).__name__, NODES)
                    if isinstance(node, ast.Assign):
                        self.assertEqual(len(node.targets), 1)
                    if isinstance(node, (ast.For, ast.While)):
                        self.assertEqual(node.orelse, [])
                    if isinstance(node, ast.Try):
                        self.assertEqual(node.finalbody, [])
                    if isinstance(node, (ast.FunctionDef, ast.ClassDef)):
                        self.assertEqual(node.decorator_list, [])
                    if isinstance(node, ast.ListComp):
                        self.assertEqual(len(node.generators), 1)
                        self.assertLessEqual(len(node.generators[0].ifs), 1)
                    if isinstance(node, ast.Constant):
                        self.assertIn(type(node.value), (int, str, bool, type(None)))

    def test_imports(self):
        for path, tree in trees():
            for node in ast.walk(tree):
                if isinstance(node, ast.ImportFrom):
                    with self.subTest(path=path, line=node.lineno):
                        self.assertIn(node, tree.body)
                        self.assertEqual(node.level, 0)
                        self.assertTrue((node.module + ".").startswith("piecebooks."))
                        self.assertNotIn("*", [part.name for part in node.names])

    def test_imported_names_are_defined_there_and_used_here(self):
        defined = {}
        for path, tree in trees():
            defined["piecebooks." + path.stem] = {
                name for node in tree.body if not isinstance(node, ast.ImportFrom) for name in top_names(node)
            }
        for path, tree in trees():
            used = {node.id for node in ast.walk(tree) if isinstance(node, ast.Name)}
            for node in ast.walk(tree):
                if isinstance(node, ast.ImportFrom):
                    for part in node.names:
                        with self.subTest(path=path, name=part.name):
                            self.assertIn(part.name, defined[node.module])
                            self.assertIn(part.name, used)

    def test_no_two_files_draw_from_one_another(self):
        drawn = {"piecebooks." + path.stem: {node.module for node in tree.body if isinstance(node, ast.ImportFrom)}
                 for path, tree in trees()}
        while drawn:
            free = [name for name in drawn if not drawn[name] & set(drawn)]
            self.assertTrue(free, sorted(drawn))
            for name in free:
                del drawn[name]

    def test_locals_are_called_like_nothing_else(self):
        for path, tree in trees():
            taken = set(dir(builtins))
            for node in tree.body:
                if isinstance(node, ast.ImportFrom):
                    taken |= {part.asname or part.name for part in node.names}
                if isinstance(node, ast.ClassDef):
                    taken.add(node.name)
            for node in ast.walk(tree):
                if isinstance(node, ast.arg) or isinstance(node, ast.Name) and isinstance(node.ctx, ast.Store):
                    with self.subTest(path=path, line=node.lineno):
                        self.assertNotIn(node.arg if isinstance(node, ast.arg) else node.id, taken)

    def test_exponents_and_texts(self):
        for path, tree in trees():
            for node in ast.walk(tree):
                with self.subTest(path=path, line=getattr(node, "lineno", 0)):
                    if isinstance(node, ast.BinOp) and isinstance(node.op, ast.Pow):
                        self.assertIsInstance(node.right, ast.Constant)
                        self.assertIn(node.right.value, range(65))
                    if isinstance(node, ast.Constant) and type(node.value) is str:
                        self.assertNotIn("%", node.value)

    def test_names(self):
        methods = set()
        for path, tree in trees():
            methods |= {node.name for node in ast.walk(tree) if isinstance(node, ast.FunctionDef)}
            methods |= {node.attr for node in ast.walk(tree)
                        if isinstance(node, ast.Attribute) and isinstance(node.ctx, ast.Store)}
        for path, tree in trees():
            names = bound_names(tree)
            with self.subTest(path=path):
                self.assertEqual(names & OWN_NAMES, set())
                for name in names - {"__init__", "__eq__", "__repr__", "__str__", "__len__"}:
                    self.assertRegex(name, r"^[A-Za-z][A-Za-z0-9_]*$")
            for node in ast.walk(tree):
                if isinstance(node, ast.Name):
                    with self.subTest(path=path, line=node.lineno):
                        self.assertIn(node.id, names | OWN_NAMES)
                if isinstance(node, ast.Attribute):
                    with self.subTest(path=path, line=node.lineno):
                        self.assertIn(node.attr, METHODS | methods)

    def test_is_stands_beside_none_and_truths(self):
        for path, tree in trees():
            for node in ast.walk(tree):
                if isinstance(node, ast.Compare) and any(isinstance(sign, (ast.Is, ast.IsNot)) for sign in node.ops):
                    with self.subTest(path=path, line=node.lineno):
                        beside = [side for side in [node.left] + node.comparators if isinstance(side, ast.Constant)]
                        self.assertTrue(any(side.value is None or type(side.value) is bool for side in beside))


if __name__ == "__main__":
    unittest.main()
