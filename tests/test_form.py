"""The rules of the language that a walk over the package's files can see."""

import ast
import builtins
import re
import unittest
from pathlib import Path

PACKAGE = Path(__file__).resolve().parent.parent / "piecebooks"
FILES = sorted(PACKAGE.rglob("*.py"))

OWN_NAMES = set(
    "len range enumerate zip min max sum abs sorted reversed int str bool list tuple dict set frozenset isinstance ord "
    "repr any all divmod Exception ValueError TypeError KeyError IndexError LookupError ZeroDivisionError "
    "ArithmeticError OverflowError RuntimeError NotImplementedError AttributeError StopIteration".split()
)
METHODS = set(
    "append clear copy count endswith extend find get index insert isalnum isalpha isdigit islower isspace isupper "
    "items join keys ljust lower lstrip partition pop remove replace reverse rfind rjust rpartition rsplit rstrip "
    "setdefault split splitlines startswith strip update upper values zfill bit_length".split()
)
NODES = set(
    "Module FunctionDef arguments arg ClassDef Lambda Return Assign AugAssign For While If Raise Try ExceptHandler "
    "ImportFrom alias Expr Pass Break Continue BoolOp BinOp UnaryOp IfExp Dict Set ListComp comprehension Compare Call "
    "keyword JoinedStr FormattedValue Constant Attribute Subscript Name List Tuple Slice Load Store And Or Add Sub "
    "Mult FloorDiv Mod Pow LShift RShift BitOr BitXor BitAnd Invert Not UAdd USub Eq NotEq Lt LtE Gt GtE Is IsNot In "
    "NotIn".split()
)
WORDS = re.compile(
    r"\b(type|typing|typing_extensions|enum|Enum|IntEnum|StrEnum|Flag|IntFlag|Generic|Protocol|ABC|ABCMeta|namedtuple"
    r"|NamedTuple|TypedDict|TYPE_CHECKING|abstractmethod)\b|dataclass|overload|contextmanager"
)


NOT_NAMES = set(
    "attrgetter breakpoint builtins compile copyright credits delattr dir eval exec exit gc getattr globals hasattr help "
    "id importlib license locals methodcaller os quit setattr super type vars sys __name__".split()
)
NOWHERE = set("register mro elements open input version_info with_traceback add_note format format_map".split())
DOUBLE = set("__init__ __eq__ __repr__ __str__ __len__".split())
VALUES = set("count index title find get join lower upper split strip copy add".split())
OF_PYTHON = {name for kind in (str, int, list, dict, set, bytes, tuple) for name in dir(kind)} | {"args"}


def trees():
    return [(path.relative_to(PACKAGE), ast.parse(path.read_text("utf-8"))) for path in FILES]


def bound_names(tree):
    names = set()
    for node in ast.walk(tree):
        if isinstance(node, (ast.FunctionDef, ast.ClassDef)):
            names.add(node.name)
        elif isinstance(node, ast.arg):
            names.add(node.arg)
        elif isinstance(node, ast.Name) and isinstance(node.ctx, ast.Store):
            names.add(node.id)
        elif isinstance(node, ast.alias):
            names.add(node.asname or node.name)
        elif isinstance(node, ast.ExceptHandler) and node.name:
            names.add(node.name)
    return names


def top_names(node):
    if isinstance(node, (ast.FunctionDef, ast.ClassDef)):
        return [node.name]
    if isinstance(node, ast.Assign):
        return [target.id for target in node.targets]
    return []


class Form(unittest.TestCase):
    def test_only_plain_files(self):
        self.assertTrue(FILES)
        for path in PACKAGE.rglob("*"):
            if "__pycache__" not in path.parts:
                with self.subTest(path=path.name):
                    self.assertRegex(path.name, r"^([a-z][a-z0-9_]*|__init__|__main__)\.py$")

    def test_signs_and_words(self):
        for path in FILES:
            text = path.read_text("utf-8")
            with self.subTest(path=path.name):
                self.assertRegex(text, r"\A[ -~\n]*\Z")
                self.assertIsNone(WORDS.search(text))

    def test_sizes(self):
        for path in FILES:
            lines = path.read_text("utf-8").split("\n")
            with self.subTest(path=path.name):
                self.assertLessEqual(len(lines), 400)
                self.assertLessEqual(max(len(line) for line in lines), 120)
        for path, tree in trees():
            for node in ast.walk(tree):
                if isinstance(node, (ast.FunctionDef, ast.Lambda)):
                    with self.subTest(path=path, line=node.lineno):
                        self.assertLessEqual(node.end_lineno - node.lineno + 1, 40)

    def test_kinds_of_statements_and_expressions(self):
        for path, tree in trees():
            for node in ast.walk(tree):
                with self.subTest(path=path, line=getattr(node, "lineno", 0)):
                    self.assertIn(type(node).__name__, NODES)
                    if isinstance(node, ast.Assign):
                        self.assertEqual(len(node.targets), 1)
                    if isinstance(node, (ast.For, ast.While)):
                        self.assertEqual(node.orelse, [])
                    if isinstance(node, ast.Try):
                        self.assertEqual(node.finalbody, [])
                    if isinstance(node, (ast.FunctionDef, ast.ClassDef)):
                        self.assertEqual(node.decorator_list, [])
                    if isinstance(node, ast.ListComp):
                        self.assertEqual(len(node.generators), 1)
                        self.assertLessEqual(len(node.generators[0].ifs), 1)
                    if isinstance(node, ast.Constant):
                        self.assertIn(type(node.value), (int, str, bool, type(None)))

    def test_imports(self):
        for path, tree in trees():
            for node in ast.walk(tree):
                if isinstance(node, ast.ImportFrom):
                    with self.subTest(path=path, line=node.lineno):
                        self.assertIn(node, tree.body)
                        self.assertEqual(node.level, 0)
                        self.assertTrue((node.module + ".").startswith("piecebooks."))
                        self.assertNotIn("*", [part.name for part in node.names])

    def test_imported_names_are_defined_there_and_used_here(self):
        defined = {}
        for path, tree in trees():
            defined["piecebooks." + path.stem] = {
                name for node in tree.body if not isinstance(node, ast.ImportFrom) for name in top_names(node)
            }
        for path, tree in trees():
            used = {node.id for node in ast.walk(tree) if isinstance(node, ast.Name)}
            for node in ast.walk(tree):
                if isinstance(node, ast.ImportFrom):
                    for part in node.names:
                        with self.subTest(path=path, name=part.name):
                            self.assertIn(part.name, defined[node.module])
                            self.assertIn(part.name, used)

    def test_no_two_files_draw_from_one_another(self):
        drawn = {"piecebooks." + path.stem: {node.module for node in tree.body if isinstance(node, ast.ImportFrom)}
                 for path, tree in trees()}
        while drawn:
            free = [name for name in drawn if not drawn[name] & set(drawn)]
            self.assertTrue(free, sorted(drawn))
            for name in free:
                del drawn[name]

    def test_locals_are_called_like_nothing_else(self):
        for path, tree in trees():
            taken = set(dir(builtins))
            for node in tree.body:
                if isinstance(node, ast.ImportFrom):
                    taken |= {part.asname or part.name for part in node.names}
                if isinstance(node, ast.ClassDef):
                    taken.add(node.name)
            for node in ast.walk(tree):
                if isinstance(node, ast.arg) or isinstance(node, ast.Name) and isinstance(node.ctx, ast.Store):
                    with self.subTest(path=path, line=node.lineno):
                        self.assertNotIn(node.arg if isinstance(node, ast.arg) else node.id, taken)

    def test_exponents_and_texts(self):
        for path, tree in trees():
            for node in ast.walk(tree):
                with self.subTest(path=path, line=getattr(node, "lineno", 0)):
                    if isinstance(node, ast.BinOp) and isinstance(node.op, ast.Pow):
                        self.assertIsInstance(node.right, ast.Constant)
                        self.assertIn(node.right.value, range(65))
                    if isinstance(node, ast.Constant) and type(node.value) is str:
                        self.assertNotIn("%", node.value)

    def test_names(self):
        methods = set()
        for path, tree in trees():
            methods |= {node.name for node in ast.walk(tree) if isinstance(node, ast.FunctionDef)}
            methods |= {node.attr for node in ast.walk(tree)
                        if isinstance(node, ast.Attribute) and isinstance(node.ctx, ast.Store)}
        for path, tree in trees():
            names = bound_names(tree)
            with self.subTest(path=path):
                self.assertEqual(names & OWN_NAMES, set())
                for name in names - {"__init__", "__eq__", "__repr__", "__str__", "__len__"}:
                    self.assertRegex(name, r"^[A-Za-z][A-Za-z0-9_]*$")
            for node in ast.walk(tree):
                if isinstance(node, ast.Name):
                    with self.subTest(path=path, line=node.lineno):
                        self.assertIn(node.id, names | OWN_NAMES)
                if isinstance(node, ast.Attribute):
                    with self.subTest(path=path, line=node.lineno):
                        self.assertIn(node.attr, METHODS | methods)

    def test_names_that_are_not_used(self):
        for path, tree in trees():
            for node in ast.walk(tree):
                with self.subTest(path=path, line=getattr(node, "lineno", 0)):
                    if isinstance(node, ast.Name):
                        self.assertNotIn(node.id, NOT_NAMES | NOWHERE)
                    if isinstance(node, ast.Attribute):
                        self.assertNotIn(node.attr, NOWHERE)
            self.assertEqual(bound_names(tree) & (NOT_NAMES | NOWHERE), set())

    def test_classes_hold_methods_alone(self):
        for path, tree in trees():
            for node in ast.walk(tree):
                if isinstance(node, ast.ClassDef):
                    with self.subTest(path=path, name=node.name):
                        self.assertIn(node, tree.body)
                        self.assertLessEqual(len(node.bases), 1)
                        self.assertEqual(node.keywords, [])
                        names = [part.name for part in node.body if isinstance(part, ast.FunctionDef)]
                        self.assertEqual(len(names), len(set(names)))
                        for part in node.body:
                            self.assertIsInstance(part, (ast.FunctionDef, ast.Pass))
                        self.assertLessEqual({name for name in names if name.startswith("_")}, DOUBLE)

    def test_methods_and_values_of_objects(self):
        methods = set()
        values = set()
        for path, tree in trees():
            for node in ast.walk(tree):
                if isinstance(node, ast.ClassDef):
                    methods |= {part.name for part in node.body if isinstance(part, ast.FunctionDef)}
                if isinstance(node, ast.Attribute) and isinstance(node.ctx, ast.Store):
                    values.add(node.attr)
                    self.assertIsInstance(node.value, ast.Name)
                    self.assertNotIn(node.value.id, {name for part in tree.body for name in top_names(part)})
        self.assertEqual(methods & values, set())
        self.assertEqual(methods & (OF_PYTHON - METHODS - DOUBLE - {"add", "discard"}), set())
        self.assertEqual(values & (OF_PYTHON - VALUES), set())

    def test_making_an_object_gives_back_nothing(self):
        for path, tree in trees():
            for node in ast.walk(tree):
                if isinstance(node, ast.FunctionDef) and node.name == "__init__":
                    with self.subTest(path=path, line=node.lineno):
                        self.assertFalse(any(isinstance(part, ast.Return) for part in ast.walk(node)))

    def test_classes_are_called_or_named_as_a_base(self):
        classes = {name for path, tree in trees() for node in tree.body if isinstance(node, ast.ClassDef)
                   for name in [node.name]}
        for path, tree in trees():
            free = []
            for node in ast.walk(tree):
                if isinstance(node, ast.Call):
                    free.append(node.func)
                    if isinstance(node.func, ast.Name) and node.func.id == "isinstance":
                        free.extend(ast.walk(node.args[1]))
                if isinstance(node, ast.ClassDef):
                    free.extend(node.bases)
                if isinstance(node, ast.ExceptHandler) and node.type:
                    free.extend(ast.walk(node.type))
                if isinstance(node, ast.Attribute) and node.attr == "__init__":
                    free.append(node.value)
            for node in ast.walk(tree):
                if isinstance(node, ast.Name) and node.id in classes:
                    with self.subTest(path=path, line=node.lineno):
                        self.assertIn(node, free)

    def test_sets_are_not_kept_and_not_walked(self):
        for path, tree in trees():
            sets = [node for node in ast.walk(tree) if isinstance(node, ast.Set) or isinstance(node, ast.Call)
                    and isinstance(node.func, ast.Name) and node.func.id in ("set", "frozenset")]
            free = []
            for node in ast.walk(tree):
                if isinstance(node, ast.Call) and isinstance(node.func, ast.Name) and node.func.id in ("sorted", "len"):
                    for part in node.args if node.keywords == [] else []:
                        while isinstance(part, ast.BinOp):
                            free.append(part.right)
                            part = part.left
                        free.append(part)
                if isinstance(node, ast.Compare):
                    free.extend([node.left] + node.comparators)
            for node in sets:
                with self.subTest(path=path, line=node.lineno):
                    self.assertIn(node, free)

    def test_handlers_name_their_errors(self):
        for path, tree in trees():
            for node in ast.walk(tree):
                if isinstance(node, ast.ExceptHandler):
                    with self.subTest(path=path, line=node.lineno):
                        self.assertIsInstance(node.type, ast.Name)
                        self.assertNotIn(node.type.id, ("Exception", "TypeError"))

    def test_is_stands_beside_none_and_truths(self):
        for path, tree in trees():
            for node in ast.walk(tree):
                if isinstance(node, ast.Compare) and any(isinstance(sign, (ast.Is, ast.IsNot)) for sign in node.ops):
                    with self.subTest(path=path, line=node.lineno):
                        beside = [side for side in [node.left] + node.comparators if isinstance(side, ast.Constant)]
                        self.assertTrue(any(side.value is None or type(side.value) is bool for side in beside))


if __name__ == "__main__":
    unittest.main()
