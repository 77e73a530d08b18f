"""The package's files, held against those rules of the language part that can be seen in the code."""

import ast
import builtins
import pathlib
import re
import unittest

PACKAGE = pathlib.Path(__file__).resolve().parent.parent / "windround"

NODES = """Module Expr FunctionDef ClassDef arguments arg ImportFrom alias Assign AugAssign If While For Return Break
Continue Pass Raise Try ExceptHandler Name Attribute Subscript Slice Load Store Constant List Tuple Dict Set ListComp
comprehension Lambda Call keyword BinOp UnaryOp BoolOp Compare IfExp JoinedStr FormattedValue And Or Not USub UAdd
Invert Add Sub Mult FloorDiv Mod Pow BitAnd BitOr BitXor LShift RShift Eq NotEq Lt LtE Gt GtE Is IsNot In NotIn""".split()

OWN_NAMES = """len range enumerate zip min max sum abs sorted reversed int str bool list tuple dict set frozenset isinstance
ord repr any all divmod Exception ValueError TypeError KeyError IndexError LookupError ZeroDivisionError ArithmeticError
OverflowError RuntimeError NotImplementedError AttributeError StopIteration""".split()

METHODS = """append clear copy count endswith extend find get index insert isalnum isalpha isdigit islower isspace isupper
items join keys ljust lower lstrip partition pop remove replace reverse rfind rjust rpartition rsplit rstrip setdefault
split splitlines startswith strip update upper values zfill bit_length""".split()

NO_WORDS = """type typing typing_extensions enum Enum IntEnum StrEnum Flag IntFlag Generic Protocol ABC ABCMeta namedtuple
NamedTuple TypedDict TYPE_CHECKING abstractmethod""".split()

NO_NAMES = """register mro elements open input version_info with_traceback add_note attrgetter breakpoint builtins compile
copyright credits delattr dir eval exec exit gc getattr globals hasattr help id importlib license locals methodcaller os
quit setattr super type vars sys chr print""".split()

DUNDERS = ["__init__", "__eq__", "__repr__", "__str__", "__len__"]
WALKED = ["zip", "enumerate", "reversed", "range"]
WALKERS = ["list", "tuple", "dict", "sorted", "sum", "any", "all", "enumerate", "zip", "min", "max"]


CHANGING = ["append", "clear", "extend", "insert", "pop", "remove", "reverse", "setdefault", "update"]
PYTHONS_OWN = [name for kind in (str, int, list, dict, set, bytes) for name in dir(kind) if name not in DUNDERS]


def files():
    return sorted(PACKAGE.glob("*.py"))


def nodes_of(path):
    return list(ast.walk(ast.parse(path.read_text(encoding="utf-8"))))


def called(node):
    return node.func.id if isinstance(node, ast.Call) and isinstance(node.func, ast.Name) else None


def bound_names(node):
    """The names that a node binds."""
    if isinstance(node, (ast.FunctionDef, ast.ClassDef)):
        return [node.name]
    if isinstance(node, ast.arg):
        return [node.arg]
    if isinstance(node, ast.Name) and isinstance(node.ctx, ast.Store):
        return [node.id]
    return []


def changed_names(node):
    """What a node changes: by an index, or by a method that changes."""
    if isinstance(node, ast.Subscript) and isinstance(node.ctx, ast.Store):
        return [ast.unparse(node.value)]
    if isinstance(node, ast.Call) and isinstance(node.func, ast.Attribute) and node.func.attr in CHANGING:
        return [ast.unparse(node.func.value)]
    return []


class Language(unittest.TestCase):
    def each_node(self):
        for path in files():
            for node in nodes_of(path):
                yield f"{path.name}:{getattr(node, 'lineno', 0)}", node

    def test_the_folder_holds_plain_files_alone(self):
        for path in PACKAGE.iterdir():
            if path.name != "__pycache__":
                self.assertRegex(path.name, r"^([a-z][a-z0-9_]*|__init__|__main__)\.py$")

    def test_signs_and_sizes(self):
        for path in files():
            text = path.read_text(encoding="utf-8")
            self.assertRegex(text, r"\A[ -~\n]*\Z", path.name)
            self.assertLessEqual(len(text.splitlines()), 400, path.name)
            self.assertLessEqual(max(len(line) for line in text.splitlines()), 120, path.name)
            self.assertFalse(set(re.findall(r"\w+", text)) & set(NO_WORDS), path.name)
            self.assertNotRegex(text, "dataclass|overload|contextmanager")

    def test_nodes_are_of_the_language(self):
        for place, node in self.each_node():
            self.assertIn(type(node).__name__, NODES, place)

    def test_plain_values(self):
        for place, node in self.each_node():
            if isinstance(node, ast.Constant):
                self.assertIn(type(node.value), (int, str, bool, type(None)), place)
                if isinstance(node.value, str):
                    self.assertNotIn("%", node.value, place)
            if isinstance(node, (ast.Assign,)):
                self.assertEqual(len(node.targets), 1, place)
                self.assertNotIsInstance(node.targets[0], ast.Tuple, place)
            if isinstance(node, ast.ListComp):
                self.assertEqual(len(node.generators), 1, place)
                self.assertLessEqual(len(node.generators[0].ifs), 1, place)
            if isinstance(node, ast.Expr):
                self.assertIsInstance(node.value, (ast.Call, ast.Constant), place)
            if isinstance(node, (ast.For, ast.While)):
                self.assertFalse(node.orelse, place)
            if isinstance(node, ast.Try):
                self.assertFalse(node.finalbody, place)

    def test_functions(self):
        for place, node in self.each_node():
            if isinstance(node, ast.FunctionDef):
                self.assertLessEqual(node.end_lineno - node.lineno + 1, 40, place)
                self.assertFalse(node.decorator_list, place)
                self.assertIsNone(node.returns, place)
            if isinstance(node, ast.arguments):
                self.assertFalse(node.vararg or node.kwarg or node.kwonlyargs or node.posonlyargs, place)
            if isinstance(node, ast.arg):
                self.assertIsNone(node.annotation, place)

    def test_classes(self):
        for place, node in self.each_node():
            if isinstance(node, ast.ClassDef):
                self.assertLessEqual(len(node.bases), 1, place)
                self.assertFalse(node.decorator_list or node.keywords, place)
                for part in node.body[1:]:
                    self.assertIsInstance(part, ast.FunctionDef, place)

    def test_names(self):
        for path in files():
            nodes = nodes_of(path)
            bound = [name for node in nodes for name in bound_names(node)]
            drawn = [part.name for node in nodes if isinstance(node, ast.ImportFrom) for part in node.names]
            for name in bound:
                if name not in DUNDERS:
                    self.assertRegex(name, r"^[A-Za-z][A-Za-z0-9_]*$", path.name)
                    self.assertFalse(hasattr(builtins, name), (path.name, name))
                    self.assertNotIn(name, NO_NAMES + drawn, path.name)
            for node in nodes:
                if isinstance(node, ast.Name) and isinstance(node.ctx, ast.Load):
                    self.assertIn(node.id, bound + drawn + OWN_NAMES, path.name)

    def test_methods_are_called_where_they_stand(self):
        for path in files():
            nodes = nodes_of(path)
            own = {name for node in nodes if isinstance(node, ast.FunctionDef) for name in bound_names(node)}
            for node in nodes:
                if isinstance(node, ast.Call) and isinstance(node.func, ast.Attribute):
                    self.assertIn(node.func.attr, METHODS + DUNDERS + sorted(own), (path.name, node.lineno))

    def test_imports_are_of_the_package_and_not_round_about(self):
        drawn = {}
        for path in files():
            nodes = nodes_of(path)
            rows = [node for node in nodes if isinstance(node, ast.ImportFrom)]
            drawn[path.stem] = [row.module.partition(".")[2] for row in rows]
            for row in rows:
                self.assertEqual((row.level, row.module.partition(".")[0]), (0, "windround"), path.name)
                self.assertTrue((PACKAGE / (row.module.partition(".")[2] + ".py")).is_file(), path.name)
        self.assertEqual(drawn["__init__"], [])
        while drawn:
            free = [name for name in drawn if not any(other in drawn for other in drawn[name])]
            self.assertTrue(free, drawn)
            drawn = {name: drawn[name] for name in drawn if name not in free}

    def test_walks_are_on_the_spot(self):
        for path in files():
            nodes = nodes_of(path)
            walked = [node.iter for node in nodes if isinstance(node, (ast.For, ast.comprehension))]
            walked += [node.args[0] for node in nodes if called(node) in WALKERS]
            for node in nodes:
                if called(node) in WALKED:
                    self.assertTrue(any(node is other for other in walked), (path.name, node.lineno))
                if isinstance(node, ast.Compare):
                    for sign, other in zip(node.ops, node.comparators):
                        if isinstance(sign, (ast.Is, ast.IsNot)):
                            self.assertIsInstance(other, ast.Constant, (path.name, node.lineno))

    def test_what_a_loop_walks_is_not_changed_in_it(self):
        for place, node in self.each_node():
            if isinstance(node, ast.For):
                walked = {ast.unparse(part) for part in ast.walk(node.iter) if isinstance(part, (ast.Name, ast.Attribute))}
                changed = {name for part in node.body for inner in ast.walk(part) for name in changed_names(inner)}
                self.assertFalse(walked & changed, place)

    def test_no_name_is_a_method_and_a_value(self):
        methods, values = set(), set()
        for place, node in self.each_node():
            if isinstance(node, ast.ClassDef):
                methods |= {part.name for part in node.body if isinstance(part, ast.FunctionDef)}
            if isinstance(node, ast.Attribute) and isinstance(node.ctx, ast.Store):
                values.add(node.attr)
        self.assertFalse(methods & values)
        self.assertFalse((methods | values) & set(PYTHONS_OWN))

    def test_handlers_take_named_errors(self):
        for place, node in self.each_node():
            if isinstance(node, ast.ExceptHandler):
                self.assertIsInstance(node.type, (ast.Name, ast.Tuple), place)
                if isinstance(node.type, ast.Name):
                    self.assertNotIn(node.type.id, ("Exception", "TypeError"), place)


if __name__ == "__main__":
    unittest.main()
