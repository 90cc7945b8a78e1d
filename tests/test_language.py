"""Those rules of the language that can be read off the package's files row by row."""

import ast
import builtins
import pathlib
import re
import unittest

PACKAGE = pathlib.Path(__file__).resolve().parent.parent / "flourashes"

ALLOWED_NODES = {
    "Module", "FunctionDef", "ClassDef", "Return", "Assign", "AugAssign", "For", "While", "If", "Raise", "Try",
    "ImportFrom", "Expr", "Pass", "Break", "Continue", "BoolOp", "BinOp", "UnaryOp", "Lambda", "IfExp", "Dict",
    "Set", "ListComp", "Compare", "Call", "JoinedStr", "FormattedValue", "Constant", "Attribute", "Subscript",
    "Name", "List", "Tuple", "Slice", "Load", "Store", "arguments", "arg", "keyword", "alias", "comprehension",
    "ExceptHandler", "And", "Or", "Not", "USub", "UAdd", "Invert", "Add", "Sub", "Mult", "FloorDiv", "Mod", "Pow",
    "BitAnd", "BitOr", "BitXor", "LShift", "RShift", "Eq", "NotEq", "Lt", "LtE", "Gt", "GtE", "Is", "IsNot", "In",
    "NotIn",
}
ALLOWED_BUILTINS = set(
    "len range enumerate zip min max sum abs sorted reversed int str bool list tuple dict set frozenset isinstance "
    "ord repr any all divmod Exception ValueError TypeError KeyError IndexError LookupError ZeroDivisionError "
    "ArithmeticError OverflowError RuntimeError NotImplementedError AttributeError StopIteration".split()
)
ALLOWED_METHODS = {"__init__", "__eq__", "__repr__", "__str__", "__len__"}
FORBIDDEN_WORDS = re.compile(
    r"\b(type|typing|typing_extensions|enum|Enum|IntEnum|StrEnum|Flag|IntFlag|Generic|Protocol|ABC|ABCMeta|namedtuple"
    r"|NamedTuple|TypedDict|TYPE_CHECKING|abstractmethod)\b|dataclass|overload|contextmanager"
)
FORBIDDEN_NAMES = set(
    "register mro elements open input version_info with_traceback add_note attrgetter breakpoint builtins compile "
    "copyright credits delattr dir eval exec exit gc getattr globals hasattr help id importlib license locals "
    "methodcaller os quit setattr super vars sys format format_map chr".split()
)
TOP_NODES = (ast.Expr, ast.ImportFrom, ast.FunctionDef, ast.ClassDef, ast.Assign)


def package_files():
    return sorted(path for path in PACKAGE.rglob("*") if path.is_file() and "__pycache__" not in path.parts)


def trees():
    return [(path.name, ast.parse(path.read_text(encoding="utf-8"))) for path in package_files()]


def named(node):
    """The names that a node gives or uses."""
    if isinstance(node, ast.Name):
        return [node.id]
    if isinstance(node, ast.Attribute):
        return [node.attr]
    if isinstance(node, ast.arg):
        return [node.arg]
    if isinstance(node, (ast.FunctionDef, ast.ClassDef)):
        return [node.name]
    if isinstance(node, ast.ExceptHandler) and node.name:
        return [node.name]
    return []


class FilesTest(unittest.TestCase):

    def test_files_and_their_names(self):
        self.assertIn("__init__.py", [path.name for path in package_files()])
        for path in package_files():
            self.assertEqual(path.parent, PACKAGE, path)
            self.assertRegex(path.name, r"^([a-z][a-z0-9_]*|__init__|__main__)\.py$")

    def test_size_and_signs(self):
        for path in package_files():
            text = path.read_bytes().decode("ascii")
            rows = text.split("\n")
            self.assertLess(len(rows), 400, path)
            for row in rows:
                self.assertLessEqual(len(row), 120, (path, row))
                self.assertRegex(row, r"^[ -~]*$", path)
                self.assertIsNone(FORBIDDEN_WORDS.search(row), (path, row))

    def test_imports_are_the_packages_own_and_in_no_circle(self):
        drawn = {}
        for name, tree in trees():
            imports = [node for node in tree.body if isinstance(node, ast.ImportFrom)]
            drawn["flourashes." + name[:-3]] = [node.module for node in imports]
            for node in imports:
                self.assertEqual(node.level, 0, name)
                self.assertNotIn("*", [alias.name for alias in node.names], name)
        while drawn:
            free = [name for name, sources in drawn.items() if not set(sources) & set(drawn)]
            self.assertTrue(free, drawn)
            for name in free:
                self.assertTrue(all(re.match(r"flourashes\.\w+$", source) for source in drawn.pop(name)), name)


class CodeTest(unittest.TestCase):

    def each_node(self):
        for name, tree in trees():
            for node in ast.walk(tree):
                yield f"{name}:{getattr(node, 'lineno', 0)}", node

    def test_only_the_allowed_parts(self):
        for place, node in self.each_node():
            self.assertIn(type(node).__name__, ALLOWED_NODES, place)
            if isinstance(node, ast.Constant):
                self.assertIn(type(node.value), (int, str, bool, type(None)), place)
            if isinstance(node, ast.Assign):
                self.assertEqual(len(node.targets), 1, place)
            if isinstance(node, (ast.For, ast.While)):
                self.assertEqual(node.orelse, [], place)
            if isinstance(node, ast.Try):
                self.assertEqual(node.finalbody, [], place)

    def test_functions_and_classes_are_plain(self):
        for place, node in self.each_node():
            if isinstance(node, (ast.FunctionDef, ast.ClassDef)):
                self.assertEqual(node.decorator_list, [], place)
            if isinstance(node, ast.FunctionDef):
                self.assertLessEqual(node.end_lineno - node.lineno + 1, 40, place)
                self.assertIsNone(node.args.vararg or node.args.kwarg, place)
                self.assertEqual(node.args.kwonlyargs + node.args.posonlyargs, [], place)
            if isinstance(node, ast.ClassDef):
                self.assertLessEqual(len(node.bases), 1, place)
                for part in node.body:
                    docstring = isinstance(part, ast.Expr) and isinstance(part.value, ast.Constant)
                    self.assertTrue(docstring or isinstance(part, ast.FunctionDef), place)

    def test_tops_of_the_files(self):
        for name, tree in trees():
            self.assertTrue(ast.get_docstring(tree), name)
            for number, node in enumerate(tree.body):
                self.assertIsInstance(node, TOP_NODES, name)
                self.assertTrue(number == 0 or not isinstance(node, ast.Expr), name)

    def test_names(self):
        for place, node in self.each_node():
            for name in named(node):
                self.assertNotIn(name, FORBIDDEN_NAMES, place)
                self.assertTrue(name in ALLOWED_METHODS or not name.startswith("_"), (place, name))
            if isinstance(node, ast.Name) and hasattr(builtins, node.id):
                self.assertIn(node.id, ALLOWED_BUILTINS, place)
                self.assertIsInstance(node.ctx, ast.Load, place)
            if isinstance(node, ast.arg):
                self.assertFalse(hasattr(builtins, node.arg), place)

    def test_no_parameter_or_local_is_called_like_a_class_or_an_import(self):
        for name, tree in trees():
            taken = {node.name for node in ast.walk(tree) if isinstance(node, ast.ClassDef)}
            for node in ast.walk(tree):
                if isinstance(node, ast.ImportFrom):
                    taken.update(alias.asname or alias.name for alias in node.names)
            for node in ast.walk(tree):
                if isinstance(node, ast.arg):
                    self.assertNotIn(node.arg, taken, (name, node.lineno))
                if isinstance(node, ast.Name) and isinstance(node.ctx, ast.Store):
                    self.assertNotIn(node.id, taken, (name, node.lineno))

    def test_keywords(self):
        keywords = {"sorted": {"key", "reverse"}, "min": {"key", "default"}, "max": {"key", "default"}}
        keywords.update({"sum": {"start"}, "enumerate": {"start"}, "zip": {"strict"}})
        for place, node in self.each_node():
            if isinstance(node, ast.Call) and node.keywords:
                self.assertIsInstance(node.func, ast.Name, place)
                self.assertLessEqual({part.arg for part in node.keywords}, keywords.get(node.func.id, set()), place)

    def test_is_stands_beside_none_true_and_false(self):
        for place, node in self.each_node():
            if isinstance(node, ast.Compare):
                for operator, right in zip(node.ops, node.comparators):
                    if isinstance(operator, (ast.Is, ast.IsNot)):
                        self.assertIsInstance(right, ast.Constant, place)
                        self.assertIn(repr(right.value), ("None", "True", "False"), place)

    def test_interface_stands_once_in_its_file(self):
        found = [
            (name, node)
            for name, tree in trees()
            for node in tree.body
            if isinstance(node, (ast.FunctionDef, ast.ClassDef)) and node.name == "answers"
        ]
        self.assertEqual([name for name, _ in found], ["blending.py"])
        arguments = found[0][1].args
        self.assertEqual([argument.arg for argument in arguments.args], ["calls"])
        self.assertEqual(arguments.defaults, [])

    def test_no_name_is_a_method_and_a_value(self):
        methods = set()
        values = set()
        for _, node in self.each_node():
            if isinstance(node, ast.ClassDef):
                methods.update(part.name for part in node.body if isinstance(part, ast.FunctionDef))
            if isinstance(node, ast.Attribute) and isinstance(node.ctx, ast.Store):
                values.add(node.attr)
        self.assertEqual(methods & values, set())


if __name__ == "__main__":
    unittest.main()
