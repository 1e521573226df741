"""The package keeps to the small part of Python in which it is written, as far as a short check can see."""

import ast
import builtins
import pathlib
import re
import unittest

PACKAGE = pathlib.Path(__file__).resolve().parent.parent / "lidprice"

NODES = set("""
    Module FunctionDef arguments arg ClassDef Return Assign AugAssign For While If Raise Try ExceptHandler ImportFrom
    alias Expr Pass Break Continue BoolOp And Or BinOp Add Sub Mult FloorDiv Mod Pow LShift RShift BitOr BitXor BitAnd
    UnaryOp Invert Not USub Lambda IfExp Dict Set ListComp comprehension Compare Eq NotEq Lt LtE Gt GtE Is IsNot In
    NotIn Call keyword Constant Attribute Subscript Slice Name List Tuple Load Store JoinedStr FormattedValue
""".split())
BUILT_IN = set("""
    len range enumerate zip min max sum abs sorted reversed int str bool list tuple dict set frozenset isinstance ord
    repr any all divmod ValueError KeyError IndexError LookupError ZeroDivisionError
""".split())
METHODS = set("""
    append clear copy count endswith extend find get index insert isalnum isalpha isdigit islower isspace isupper items
    join keys ljust lower lstrip partition pop remove replace reverse rfind rjust rpartition rsplit rstrip setdefault
    split splitlines startswith strip update upper values zfill bit_length
""".split())
UNUSED_NAMES = set("""
    register mro elements open input version_info with_traceback add_note attrgetter breakpoint builtins compile
    copyright credits delattr dir eval exec exit gc getattr globals hasattr help id importlib license locals
    methodcaller os quit setattr super type vars sys
""".split())
UNUSED_WORDS = re.compile(
    r"\b(type|typing|typing_extensions|enum|Enum|IntEnum|StrEnum|Flag|IntFlag|Generic|Protocol|ABC|ABCMeta|namedtuple|"
    r"NamedTuple|TypedDict|TYPE_CHECKING|abstractmethod)\b|dataclass|overload|contextmanager"
)
WALKERS = set("list tuple dict sorted sum any all enumerate zip min max".split())
WALKED = set("zip enumerate reversed range".split())
OWN_OF_VALUES = {name for kind in (str, int, list, dict, set, bytes, tuple) for name in dir(kind)}


def bound_names(tree):
    names = [node.id for node in ast.walk(tree) if isinstance(node, ast.Name) and isinstance(node.ctx, ast.Store)]
    names.extend(node.arg for node in ast.walk(tree) if isinstance(node, ast.arg))
    return names


def walked_at_once(tree):
    """What stands where it is walked on the spot."""
    places = []
    for node in ast.walk(tree):
        if isinstance(node, (ast.For, ast.comprehension)):
            places.append(node.iter)
        if isinstance(node, ast.Call) and isinstance(node.func, ast.Name) and node.func.id in WALKERS:
            places.extend(node.args)
    return places


def bound_at_top(tree):
    names = [node.name for node in tree.body if isinstance(node, (ast.FunctionDef, ast.ClassDef))]
    names.extend(target.id for node in tree.body if isinstance(node, ast.Assign) for target in node.targets)
    return names


class Form(unittest.TestCase):
    def setUp(self):
        self.files = sorted(PACKAGE.rglob("*.py"))
        self.texts = {path.name: path.read_text(encoding="utf-8") for path in self.files}
        self.trees = {name: ast.parse(text) for name, text in self.texts.items()}

    def each_node(self):
        for name, tree in self.trees.items():
            for node in ast.walk(tree):
                yield f"{name}:{getattr(node, 'lineno', 0)}", node

    def test_files(self):
        found = [path for path in PACKAGE.rglob("*") if "__pycache__" not in path.parts]
        self.assertEqual(sorted(found), self.files)
        self.assertIn("__init__.py", self.texts)
        for name in self.texts:
            self.assertRegex(name, r"^([a-z][a-z0-9_]*|__init__|__main__)\.py$")

    def test_sizes_and_signs(self):
        for name, text in self.texts.items():
            rows = text.split("\n")
            self.assertLessEqual(len(rows), 400, name)
            for number, row in enumerate(rows, 1):
                self.assertLessEqual(len(row), 120, f"{name}:{number}")
                self.assertRegex(row, r"^[ -~]*$", f"{name}:{number}")

    def test_words(self):
        for name, text in self.texts.items():
            self.assertIsNone(UNUSED_WORDS.search(text), name)

    def test_nodes(self):
        for place, node in self.each_node():
            self.assertIn(node.__class__.__name__, NODES, place)

    def test_functions(self):
        for place, node in self.each_node():
            if isinstance(node, ast.FunctionDef):
                self.assertLessEqual(node.end_lineno - node.lineno + 1, 40, place)
                self.assertFalse(node.decorator_list or node.args.vararg or node.args.kwarg, place)
                self.assertFalse(node.args.kwonlyargs or node.args.posonlyargs, place)

    def test_assignments(self):
        for place, node in self.each_node():
            if isinstance(node, ast.Assign):
                self.assertEqual(len(node.targets), 1, place)
                self.assertIsInstance(node.targets[0], (ast.Name, ast.Attribute, ast.Subscript), place)

    def test_values(self):
        for place, node in self.each_node():
            if isinstance(node, ast.Constant):
                self.assertIn(node.value.__class__, (int, str, bool, None.__class__), place)
                self.assertNotIn("%", str(node.value), place)
            if isinstance(node, ast.ListComp):
                self.assertEqual(len(node.generators), 1, place)
                self.assertLessEqual(len(node.generators[0].ifs), 1, place)

    def test_imports(self):
        defined = {
            f"lidprice.{name[:-3]}": bound_at_top(tree) for name, tree in self.trees.items()
        }
        for place, node in self.each_node():
            if isinstance(node, ast.ImportFrom):
                self.assertEqual(node.level, 0, place)
                for alias in node.names:
                    self.assertIn(alias.name, defined[node.module], place)

    def test_names(self):
        for name, tree in self.trees.items():
            own = bound_names(tree)
            own.extend(node.name for node in ast.walk(tree) if isinstance(node, (ast.FunctionDef, ast.ClassDef)))
            imported = [alias.name for node in tree.body if isinstance(node, ast.ImportFrom) for alias in node.names]
            for word in own:
                self.assertNotIn(word, dir(builtins), name)
                self.assertNotIn(word, UNUSED_NAMES, name)
                self.assertTrue(word == "__init__" or not word.startswith("_"), f"{name}: {word}")
            for word in bound_names(tree):
                self.assertNotIn(word, imported, name)
            for node in ast.walk(tree):
                if isinstance(node, ast.Name) and node.id in dir(builtins):
                    self.assertIn(node.id, BUILT_IN, name)

    def test_each_name_once_at_the_top(self):
        for name, tree in self.trees.items():
            imported = [alias.name for node in tree.body if isinstance(node, ast.ImportFrom) for alias in node.names]
            names = bound_at_top(tree) + imported
            self.assertEqual(sorted(set(names)), sorted(names), name)

    def test_no_two_files_draw_from_one_another(self):
        draws = {
            f"lidprice.{name[:-3]}": {node.module for node in tree.body if isinstance(node, ast.ImportFrom)}
            for name, tree in self.trees.items()
        }
        while draws:
            free = [name for name in draws if not draws[name] & set(draws)]
            self.assertTrue(free, draws)
            for name in free:
                draws.pop(name)

    def test_no_name_is_a_method_and_a_value(self):
        methods = {
            inner.name for place, node in self.each_node() if isinstance(node, ast.ClassDef)
            for inner in node.body if isinstance(inner, ast.FunctionDef)
        }
        values = {
            node.attr for place, node in self.each_node()
            if isinstance(node, ast.Attribute) and isinstance(node.ctx, ast.Store)
        }
        self.assertEqual(methods & values, set())

    def test_walked_at_once(self):
        for name, tree in self.trees.items():
            walked = walked_at_once(tree)
            for node in ast.walk(tree):
                if isinstance(node, ast.Call) and isinstance(node.func, ast.Name) and node.func.id in WALKED:
                    self.assertIn(node, walked, f"{name}:{node.lineno}")
                if isinstance(node, ast.Call) and isinstance(node.func, ast.Attribute):
                    if node.func.attr in ("items", "keys", "values"):
                        self.assertIn(node, walked, f"{name}:{node.lineno}")

    def test_attributes(self):
        for place, node in self.each_node():
            if isinstance(node, ast.Attribute):
                self.assertNotIn(node.attr, UNUSED_NAMES, place)
                if node.attr in OWN_OF_VALUES and node.attr != "__init__":
                    self.assertIn(node.attr, METHODS, place)


if __name__ == "__main__":
    unittest.main()
