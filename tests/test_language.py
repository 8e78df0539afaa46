"""The package's files beside those rules of its language that can be read off them."""

import ast
import builtins
import re
import unittest
from pathlib import Path

PACKAGE = Path(__file__).resolve().parent.parent / "leastfares"
FILES = sorted(PACKAGE.glob("*.py"))

ALLOWED_NODES = {
    *("Module", "ImportFrom", "alias", "FunctionDef", "arguments", "arg", "ClassDef", "Load", "Store"),
    *("Assign", "AugAssign", "If", "While", "For", "Return", "Break", "Continue", "Pass", "Raise", "Try"),
    *("ExceptHandler", "Expr", "Constant", "Name", "List", "Tuple", "Dict", "BinOp", "UnaryOp", "BoolOp"),
    *("Compare", "IfExp", "Call", "keyword", "Attribute", "Subscript", "Slice", "ListComp", "comprehension"),
    *("Add", "Sub", "Mult", "FloorDiv", "Mod", "BitAnd", "BitOr", "BitXor", "LShift", "RShift", "USub", "Not"),
    *("And", "Or", "Eq", "NotEq", "Lt", "LtE", "Gt", "GtE", "Is", "IsNot", "In", "NotIn", "Lambda"),
}
ALLOWED_BUILTINS = {
    *("len", "range", "enumerate", "zip", "min", "max", "sum", "abs", "sorted", "reversed", "int", "str", "bool"),
    *("list", "tuple", "dict", "set", "frozenset", "isinstance", "ord", "repr", "any", "all", "divmod"),
    *("KeyError", "ValueError", "Exception", "IndexError", "LookupError", "ZeroDivisionError"),
}
ALLOWED_METHODS = set(
    """append clear copy count endswith extend find get index insert isalnum isalpha isdigit islower isspace
    isupper items join keys ljust lower lstrip partition pop remove replace reverse rfind rjust rpartition rsplit
    rstrip setdefault split splitlines startswith strip update upper values zfill bit_length""".split()
)
FORBIDDEN_NAMES = set(
    """register mro elements open input version_info with_traceback add_note format format_map attrgetter
    breakpoint compile delattr dir eval exec exit gc getattr globals hasattr help id locals os quit setattr super
    vars sys""".split()
)
FORBIDDEN_WORDS = re.compile(
    r"\b(type|typing|typing_extensions|enum|Enum|IntEnum|StrEnum|Flag|IntFlag|Generic|Protocol|ABC|ABCMeta"
    r"|namedtuple|NamedTuple|TypedDict|TYPE_CHECKING|abstractmethod)\b|dataclass|overload|contextmanager"
)


def tree_of(path):
    return ast.parse(path.read_text(encoding="utf-8"), str(path))


def bound_names(tree):
    """Every name that a file gives to something, values of objects too."""
    for node in ast.walk(tree):
        if isinstance(node, (ast.FunctionDef, ast.ClassDef)):
            yield node.name
        elif isinstance(node, ast.arg):
            yield node.arg
        elif isinstance(node, ast.Name) and isinstance(node.ctx, ast.Store):
            yield node.id


def own_values(tree):
    return {node.attr for node in ast.walk(tree) if isinstance(node, ast.Attribute) and isinstance(node.ctx, ast.Store)}


def top_names(tree):
    """The names that a file's top gives to something itself."""
    for node in tree.body:
        if isinstance(node, (ast.FunctionDef, ast.ClassDef)):
            yield node.name
        elif isinstance(node, ast.Assign):
            yield node.targets[0].id


class LanguageTest(unittest.TestCase):
    def each_file(self):
        self.assertTrue(FILES)
        for path in FILES:
            with self.subTest(path=path.name):
                yield path, tree_of(path)

    def test_files(self):
        found = {path.name for path in PACKAGE.iterdir()} - {"__pycache__"}
        self.assertEqual(found, {path.name for path in FILES})
        self.assertIn("__init__.py", found)
        for name in found - {"__init__.py"}:
            self.assertRegex(name, r"^[a-z][a-z0-9_]*\.py$")
            self.assertNotIn(name[:-3], set(dir(builtins)))

    def test_signs_words_and_sizes(self):
        for path, tree in self.each_file():
            text = path.read_bytes().decode("ascii")
            self.assertTrue(all(sign == "\n" or " " <= sign <= "~" for sign in text))
            self.assertIsNone(FORBIDDEN_WORDS.search(text))
            self.assertLessEqual(len(text.splitlines()), 400)
            self.assertLessEqual(max(len(line) for line in text.splitlines()), 120)
            for node in ast.walk(tree):
                if isinstance(node, ast.FunctionDef):
                    self.assertLessEqual(node.end_lineno - node.lineno + 1, 40, node.name)

    def test_statements_and_expressions(self):
        for path, tree in self.each_file():
            for node in ast.walk(tree):
                self.assertIn(type(node).__name__, ALLOWED_NODES, ast.dump(node))
                if isinstance(node, ast.Constant):
                    self.assertIn(type(node.value), (int, str, bool, type(None)))
                if isinstance(node, ast.Assign):
                    self.assertEqual(len(node.targets), 1)
                if isinstance(node, ast.ListComp):
                    self.assertEqual(len(node.generators), 1)
                    self.assertLessEqual(len(node.generators[0].ifs), 1)
                if isinstance(node, (ast.For, ast.While)):
                    self.assertEqual(node.orelse, [])

    def test_expressions_by_themselves_are_calls(self):
        for path, tree in self.each_file():
            for node in ast.walk(tree):
                if isinstance(node, ast.Expr) and node is not tree.body[0]:
                    self.assertIsInstance(node.value, ast.Call)

    def test_is_stands_beside_none_alone(self):
        for path, tree in self.each_file():
            for node in ast.walk(tree):
                if isinstance(node, ast.Compare) and any(isinstance(op, (ast.Is, ast.IsNot)) for op in node.ops):
                    self.assertTrue(all(isinstance(one, ast.Constant) for one in node.comparators))

    def test_functions_and_classes(self):
        for path, tree in self.each_file():
            for node in ast.walk(tree):
                if isinstance(node, ast.FunctionDef):
                    self.assertEqual(node.decorator_list, [])
                    self.assertEqual(node.args.kwonlyargs + node.args.posonlyargs, [])
                    self.assertIsNone(node.args.vararg or node.args.kwarg)
                if isinstance(node, ast.ClassDef):
                    self.assertEqual(node.decorator_list, [])
                    self.assertTrue(all(isinstance(one, ast.FunctionDef) for one in node.body))
                    self.assertIn(node, tree.body)

    def test_top_of_a_file(self):
        for path, tree in self.each_file():
            self.assertIsNotNone(ast.get_docstring(tree))
            defined = [node.name for node in tree.body if isinstance(node, ast.FunctionDef)]
            for node in tree.body[1:]:
                self.assertIsInstance(node, (ast.ImportFrom, ast.FunctionDef, ast.ClassDef, ast.Assign))
                if isinstance(node, ast.Assign):
                    for part in ast.walk(node.value):
                        self.assertNotIsInstance(part, (ast.Call, ast.BinOp, ast.Attribute, ast.Subscript))
                        if isinstance(part, ast.Name):
                            self.assertIn(part.id, defined)
            names = list(top_names(tree))
            self.assertEqual(len(names), len(set(names)))

    def test_imports(self):
        drawn = {}
        for path, tree in self.each_file():
            drawn[path.stem] = []
            for node in tree.body:
                if isinstance(node, ast.ImportFrom):
                    self.assertEqual(node.level, 0)
                    package, stem = node.module.split(".")
                    self.assertEqual(package, "leastfares")
                    self.assertIn(PACKAGE / (stem + ".py"), FILES)
                    drawn[path.stem].append(stem)
                    defined = set(top_names(tree_of(PACKAGE / (stem + ".py"))))
                    used = {one.id for one in ast.walk(tree) if isinstance(one, ast.Name)}
                    for one in node.names:
                        self.assertIsNone(one.asname)
                        self.assertIn(one.name, defined)
                        self.assertIn(one.name, used)
        while drawn:
            free = [stem for stem in drawn if not set(drawn[stem]) & set(drawn)]
            self.assertTrue(free, "files draw from one another")
            for stem in free:
                del drawn[stem]

    def test_names(self):
        for path, tree in self.each_file():
            classes = {node.name for node in tree.body if isinstance(node, ast.ClassDef)}
            imported = {one.name for node in tree.body if isinstance(node, ast.ImportFrom) for one in node.names}
            for name in list(bound_names(tree)) + list(own_values(tree)):
                self.assertRegex(name, r"^([A-Za-z][A-Za-z0-9_]*|__init__)$")
                self.assertNotIn(name, FORBIDDEN_NAMES)
            for name in bound_names(tree):
                self.assertNotIn(name, set(dir(builtins)) | imported)
            for node in ast.walk(tree):
                if isinstance(node, ast.Name) and node.id in dir(builtins):
                    self.assertIn(node.id, ALLOWED_BUILTINS)
                if isinstance(node, ast.arg) or isinstance(node, ast.Name) and isinstance(node.ctx, ast.Store):
                    self.assertNotIn(getattr(node, "arg", getattr(node, "id", "")), classes)

    def test_methods_and_values(self):
        python_own = set()
        for value in ("", 0, [], {}, set(), b"", (), frozenset()):
            python_own |= set(dir(value))
        methods = {
            part.name
            for path in FILES
            for node in tree_of(path).body
            if isinstance(node, ast.ClassDef)
            for part in node.body
        }
        for path, tree in self.each_file():
            self.assertEqual(own_values(tree) & (python_own | methods), set())
            for node in ast.walk(tree):
                if isinstance(node, ast.Call) and isinstance(node.func, ast.Attribute):
                    self.assertIn(node.func.attr, ALLOWED_METHODS | methods)


if __name__ == "__main__":
    unittest.main()
