"""What of ../shared/LANGUAGE.md can be seen in the package's text; the test's name tells the rule."""

import ast
import builtins
import pathlib
import re
import unittest

PACKAGE = pathlib.Path(__file__).resolve().parent.parent / "moneyorders"
FILES = sorted(path for path in PACKAGE.rglob("*") if "__pycache__" not in path.parts)
TREES = {path.stem: ast.parse(path.read_text()) for path in FILES if path.suffix == ".py"}

NODES = (
    "Module FunctionDef ClassDef Return Assign AugAssign For While If Raise Try ImportFrom Expr Pass Break Continue "
    "BoolOp BinOp UnaryOp Lambda IfExp Dict ListComp Compare Call Constant Attribute Subscript Name List Tuple Slice "
    "Load Store And Or Add Sub Mult FloorDiv Mod Pow LShift RShift BitOr BitXor BitAnd Invert Not UAdd USub "
    "Eq NotEq Lt LtE Gt GtE Is IsNot In NotIn comprehension ExceptHandler arguments arg keyword alias "
    "JoinedStr FormattedValue").split()
OWN = (
    "len range enumerate zip min max sum abs sorted reversed int str bool list tuple dict set frozenset isinstance "
    "ord repr any all divmod Exception ValueError TypeError KeyError IndexError LookupError ZeroDivisionError "
    "ArithmeticError OverflowError RuntimeError NotImplementedError AttributeError StopIteration").split()
METHODS = (
    "append clear copy count endswith extend find get index insert isalnum isalpha isdigit islower isspace isupper "
    "items join keys ljust lower lstrip partition pop remove replace reverse rfind rjust rpartition rsplit rstrip "
    "setdefault split splitlines startswith strip update upper values zfill bit_length").split()
NO_NAMES = (
    "register mro elements open input version_info with_traceback add_note attrgetter breakpoint builtins compile "
    "copyright credits delattr dir eval exec exit gc getattr globals hasattr help id importlib license locals "
    "methodcaller os quit setattr super type vars sys __name__ format format_map chr print").split()
NO_WORDS = re.compile(
    r"\b(type|typing|typing_extensions|enum|Enum|IntEnum|StrEnum|Flag|IntFlag|Generic|Protocol|ABC|ABCMeta|namedtuple|"
    r"NamedTuple|TypedDict|TYPE_CHECKING|abstractmethod)\b|dataclass|overload|contextmanager")
TAKEN = {name for kind in (str, int, list, dict, set, bytes, tuple) for name in vars(kind)}


def nodes(kind):
    return [(stem, node) for stem, tree in TREES.items() for node in ast.walk(tree) if isinstance(node, kind)]


def bound_in(function):
    names = [part.arg for part in ast.walk(function) if isinstance(part, ast.arg)]
    return names + [part.id for part in ast.walk(function)
                    if isinstance(part, ast.Name) and isinstance(part.ctx, ast.Store)]


def top_names(tree):
    found = [part.name for part in tree.body if isinstance(part, (ast.FunctionDef, ast.ClassDef))]
    return found + [part.targets[0].id for part in tree.body if isinstance(part, ast.Assign)]


def imported(tree):
    return [(part.module, alias.name) for part in tree.body if isinstance(part, ast.ImportFrom) for alias in part.names]


def own_methods():
    return {part.name for stem, node in nodes(ast.ClassDef) for part in node.body}


def own_values():
    return {node.attr for stem, node in nodes(ast.Attribute) if isinstance(node.ctx, ast.Store)}


class Language(unittest.TestCase):
    def test_l1_l14_files_and_signs(self):
        self.assertIn("offices", TREES)
        self.assertIn("__init__", TREES)
        for path in FILES:
            self.assertRegex(path.name, r"^(__init__|[a-z][a-z0-9_]*)\.py$")
            self.assertNotIn(path.stem, dir(builtins))
            self.assertRegex(path.read_text(), r"\A[ -~\n]*\Z")

    def test_l2_l16_imports(self):
        for stem, tree in TREES.items():
            for module, name in imported(tree):
                self.assertRegex(module, r"^moneyorders\.[a-z]+$")
                self.assertIn(name, top_names(TREES[module.split(".")[1]]), (stem, name))
            self.assertEqual([part for part in ast.walk(tree) if isinstance(part, ast.Import)], [])
        self.assertEqual(imported(TREES["__init__"]), [])

    def test_l16_no_two_files_draw_from_one_another(self):
        left = {stem: {module.split(".")[1] for module, name in imported(tree)} for stem, tree in TREES.items()}
        while left:
            free = [stem for stem in left if not left[stem] & set(left)]
            self.assertTrue(free, left)
            for stem in free:
                left.pop(stem)

    def test_l3_the_top_of_a_module(self):
        for stem, tree in TREES.items():
            self.assertIsNotNone(ast.get_docstring(tree), stem)
            for part in tree.body[1:]:
                self.assertIsInstance(part, (ast.ImportFrom, ast.FunctionDef, ast.ClassDef, ast.Assign))
                if isinstance(part, ast.Assign):
                    ast.literal_eval(part.value)
            names = top_names(tree) + [name for module, name in imported(tree)]
            self.assertEqual(len(names), len(set(names)), stem)

    def test_l4_l5_l21_functions_and_classes(self):
        for stem, node in nodes((ast.FunctionDef, ast.Lambda)):
            given = node.args
            self.assertFalse(given.vararg or given.kwarg or given.kwonlyargs or given.posonlyargs, (stem, node.lineno))
            self.assertTrue(all(part.annotation is None for part in given.args))
        for stem, node in nodes((ast.FunctionDef, ast.ClassDef)):
            self.assertEqual(node.decorator_list, [])
        for stem, node in nodes(ast.ClassDef):
            self.assertLessEqual(len(node.bases), 1)
            self.assertTrue(all(isinstance(part, ast.FunctionDef) for part in node.body))
            self.assertEqual(len({part.name for part in node.body}), len(node.body))

    def test_l6_l7_statements_and_expressions(self):
        for stem, node in nodes(ast.AST):
            self.assertIn(node.__class__.__name__, NODES, (stem, getattr(node, "lineno", 0)))
        for stem, node in nodes(ast.Assign):
            self.assertEqual(len(node.targets), 1)
            self.assertNotIsInstance(node.targets[0], (ast.Tuple, ast.List))
        for stem, node in nodes((ast.For, ast.While)):
            self.assertEqual(node.orelse, [])
        for stem, node in nodes(ast.Constant):
            self.assertIsInstance(node.value, (int, str, type(None)))
        for stem, node in nodes(ast.ListComp):
            self.assertEqual(len(node.generators), 1)
            self.assertLessEqual(len(node.generators[0].ifs), 1)
        for stem, node in nodes(ast.FunctionDef):
            for part in ast.walk(node):
                if isinstance(part, ast.Expr):
                    self.assertIsInstance(part.value, ast.Call, (stem, part.lineno))

    def test_l8_l12_l17_names(self):
        for stem, node in nodes((ast.Name, ast.Attribute, ast.arg, ast.FunctionDef, ast.ClassDef)):
            name = [getattr(node, field) for field in ("id", "attr", "arg", "name") if hasattr(node, field)][0]
            self.assertNotIn(name, NO_NAMES, (stem, node.lineno))
            if name != "__init__":
                self.assertRegex(name, r"^[A-Za-z][A-Za-z0-9_]*$", (stem, node.lineno))
            if isinstance(node, ast.Name) and name in dir(builtins):
                self.assertIn(name, OWN, (stem, node.lineno))

    def test_l10_size(self):
        for path in FILES:
            rows = path.read_text().split("\n")
            self.assertLessEqual(len(rows), 400, path)
            self.assertLessEqual(max(len(row) for row in rows), 120, path)
        for stem, node in nodes(ast.FunctionDef):
            self.assertLessEqual(node.end_lineno - node.lineno + 1, 40, (stem, node.name))

    def test_l15_locals(self):
        for stem, tree in TREES.items():
            classes = [part.name for part in tree.body if isinstance(part, ast.ClassDef)]
            not_free = set(classes + [name for module, name in imported(tree)] + dir(builtins))
            for node in ast.walk(tree):
                if isinstance(node, ast.FunctionDef):
                    self.assertEqual(set(bound_in(node)) & not_free, set(), (stem, node.name))

    def test_l17_words(self):
        for path in FILES:
            self.assertIsNone(NO_WORDS.search(path.read_text()), path)

    def test_l18_l25_l26_methods_and_values(self):
        self.assertEqual(own_methods() & own_values(), set())
        self.assertEqual((own_methods() - {"__init__"} | own_values()) & TAKEN, set())
        for stem, node in nodes(ast.Call):
            if isinstance(node.func, ast.Attribute):
                self.assertIn(node.func.attr, METHODS + sorted(own_methods()), (stem, node.lineno))
            self.assertEqual([part.arg for part in node.keywords if part.arg not in ("key", "default", "start")], [])

    def test_l20_is(self):
        for stem, node in nodes(ast.Compare):
            for sign, other in zip(node.ops, node.comparators):
                if isinstance(sign, (ast.Is, ast.IsNot)):
                    self.assertTrue(isinstance(other, ast.Constant) and other.value in (None, True, False))

    def test_l23_walked_at_once(self):
        walked = [node.iter for stem, node in nodes((ast.For, ast.comprehension))]
        for stem, node in nodes(ast.Call):
            name = getattr(node.func, "id", getattr(node.func, "attr", ""))
            if name in ("zip", "enumerate", "reversed", "range", "items", "keys", "values"):
                self.assertIn(node, walked, (stem, node.lineno))


if __name__ == "__main__":
    unittest.main()
