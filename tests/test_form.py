"""The package's files keep to the small part of Python that they are to be written in.

Checked is what can be seen at once: files, signs, sizes, imports, statements, names, methods and sets.
"""

import ast
import builtins
import re
import unittest
from pathlib import Path

PACKAGE = Path(__file__).resolve().parent.parent / "twinless"

BUILTINS = set("""
    len range enumerate zip min max sum abs sorted reversed int str bool list tuple dict set frozenset isinstance
    ord repr any all divmod Exception ValueError TypeError KeyError IndexError LookupError ZeroDivisionError
    ArithmeticError OverflowError RuntimeError NotImplementedError AttributeError StopIteration
""".split())

METHODS = set("""
    append clear copy count endswith extend find get index insert isalnum isalpha isdigit islower isspace isupper
    items join keys ljust lower lstrip partition pop remove replace reverse rfind rjust rpartition rsplit rstrip
    setdefault split splitlines startswith strip update upper values zfill bit_length
""".split())

NODES = set("""
    Module FunctionDef ClassDef arguments arg Return Assign AugAssign For While If Raise Try ExceptHandler ImportFrom
    alias Expr Pass Break Continue BoolOp And Or BinOp Add Sub Mult FloorDiv Mod Pow LShift RShift BitOr BitXor BitAnd
    UnaryOp Invert Not UAdd USub Lambda IfExp Dict ListComp comprehension Compare Eq NotEq Lt LtE Gt GtE Is IsNot In
    NotIn Call keyword JoinedStr FormattedValue Constant Attribute Subscript Slice Name List Tuple Load Store
""".split())

WORDS = re.compile(
    r"\b(type|typing|typing_extensions|enum|Enum|IntEnum|StrEnum|Flag|IntFlag|Generic|Protocol|ABC|ABCMeta|namedtuple"
    r"|NamedTuple|TypedDict|TYPE_CHECKING|abstractmethod)\b|dataclass|overload|contextmanager"
)


def files():
    return sorted(path for path in PACKAGE.rglob("*.py"))


def nodes():
    return [(path.name, node) for path in files() for node in ast.walk(ast.parse(path.read_text("utf-8")))]


def bound_names(node):
    if isinstance(node, ast.Name) and isinstance(node.ctx, ast.Store):
        return [node.id]
    if isinstance(node, ast.FunctionDef):
        return [node.name] + [arg.arg for arg in node.args.args]
    if isinstance(node, ast.ClassDef):
        return [node.name]
    return []


def stands_straight_within(node, other):
    """Whether the same code stands as what sorted or len is called with, or beside in, == or !=."""
    if isinstance(other, ast.Call) and ast.unparse(other.func) in ("sorted", "len") and not other.keywords:
        parts = other.args
    elif isinstance(other, ast.Compare) and isinstance(other.ops[0], (ast.In, ast.NotIn, ast.Eq, ast.NotEq)):
        parts = [other.left] + other.comparators
    else:
        parts = []
    return any(ast.dump(part, include_attributes=True) == ast.dump(node, include_attributes=True) for part in parts)


def draws_from():
    """The modules that each module imports from."""
    drawn = {"twinless." + path.stem: [] for path in files()}
    for name, node in nodes():
        if isinstance(node, ast.ImportFrom):
            drawn["twinless." + name[:-3]].append(node.module)
    return drawn


class Form(unittest.TestCase):
    def test_nothing_but_plain_python_files(self):
        names = [path.name for path in PACKAGE.iterdir() if path.name != "__pycache__"]
        self.assertIn("__init__.py", names)
        for name in names:
            self.assertRegex(name, r"\A([a-z][a-z0-9_]*|__init__|__main__)\.py\Z")

    def test_signs_words_and_sizes(self):
        for path in files():
            text = path.read_bytes().decode("ascii")
            self.assertRegex(text, r"\A[ -~\n]*\Z", path.name)
            self.assertIsNone(WORDS.search(text), path.name)
            lines = text.split("\n")
            self.assertLessEqual(len(lines), 400, path.name)
            self.assertLessEqual(max(len(line) for line in lines), 120, path.name)

    def test_imports_are_the_packages_own(self):
        modules = ["twinless." + path.stem for path in files()]
        for name, node in nodes():
            if isinstance(node, ast.ImportFrom):
                self.assertEqual(node.level, 0, name)
                self.assertIn(node.module, modules, name)
                self.assertNotIn("*", [alias.name for alias in node.names], name)

    def test_no_two_files_draw_from_one_another(self):
        drawn = draws_from()
        while drawn:
            free = [module for module in drawn if not any(other in drawn for other in drawn[module])]
            self.assertNotEqual(free, [])
            drawn = {module: others for module, others in drawn.items() if module not in free}

    def test_imported_names_are_drawn_from_where_they_are_defined_and_bound_nowhere_else(self):
        defined = {path.stem: [node.name for node in ast.parse(path.read_text("utf-8")).body if hasattr(node, "name")]
                   for path in files()}
        for path in files():
            here = [node for name, node in nodes() if name == path.name]
            bound = [name for node in here for name in bound_names(node)]
            self.assertEqual(len(defined[path.stem]), len(set(defined[path.stem])), path.name)
            for node in here:
                for alias in node.names if isinstance(node, ast.ImportFrom) else []:
                    self.assertIn(alias.name, defined[node.module.split(".")[1]], path.name)
                    self.assertNotIn(alias.name, bound, path.name)

    def test_statements_and_expressions(self):
        for name, node in nodes():
            where = f"{name}:{getattr(node, 'lineno', 0)}"
            self.assertIn(node.__class__.__name__, NODES, where)
            if isinstance(node, (ast.For, ast.While)):
                self.assertEqual(node.orelse, [], where)
            if isinstance(node, ast.Assign):
                self.assertEqual(len(node.targets), 1, where)
            if isinstance(node, ast.Constant):
                self.assertIn(type(node.value), (int, str, bool, type(None)), where)
            if isinstance(node, (ast.FunctionDef, ast.ClassDef)):
                self.assertEqual(node.decorator_list, [], where)
            if isinstance(node, ast.FunctionDef):
                self.assertLessEqual(node.end_lineno - node.lineno + 1, 40, where)
                self.assertIsNone(node.args.vararg or node.args.kwarg, where)

    def test_names_and_methods(self):
        own = {node.name for name, node in nodes() if isinstance(node, ast.FunctionDef)}
        for name, node in nodes():
            where = f"{name}:{getattr(node, 'lineno', 0)}"
            for bound in bound_names(node):
                self.assertRegex(bound, r"\A([A-Za-z][A-Za-z0-9_]*|__(init|eq|repr|str|len)__)\Z", where)
                self.assertFalse(hasattr(builtins, bound), where)
            if isinstance(node, ast.Name) and hasattr(builtins, node.id):
                self.assertIn(node.id, BUILTINS, where)
            if isinstance(node, ast.Call) and isinstance(node.func, ast.Attribute):
                self.assertIn(node.func.attr, METHODS | own, where)

    def test_texts_powers_and_is(self):
        for name, node in nodes():
            where = f"{name}:{getattr(node, 'lineno', 0)}"
            if isinstance(node, ast.Constant) and isinstance(node.value, str):
                self.assertNotIn("%", node.value, where)
            if isinstance(node, ast.BinOp) and isinstance(node.op, ast.Pow):
                self.assertIsInstance(node.right, ast.Constant, where)
            if isinstance(node, ast.Compare) and isinstance(node.ops[0], (ast.Is, ast.IsNot)):
                self.assertIn(ast.unparse(node.comparators[0]), ("None", "True", "False"), where)

    def test_a_set_is_sorted_measured_or_asked_on_the_spot(self):
        for name, node in nodes():
            if isinstance(node, ast.Call) and ast.unparse(node.func) == "set":
                around = [other for file, other in nodes() if file == name and stands_straight_within(node, other)]
                self.assertEqual(len(around), 1, f"{name}:{node.lineno}")


if __name__ == "__main__":
    unittest.main()
