"""The package's files keep to the part of the language that can be seen line by line."""

import ast
import os
import re
import unittest

HERE = os.path.dirname(os.path.abspath(__file__))
PACKAGE = os.path.join(os.path.dirname(HERE), "earlystop")
MOST_FILE_LINES = 400
MOST_DEF_LINES = 40
MOST_SIGNS = 120
NODES = set("""
    Module FunctionDef ClassDef arguments arg Lambda Assign AugAssign If While For Return Break Continue Pass Raise Try
    ExceptHandler Expr ImportFrom alias Constant Name Load Store List Tuple Dict Set ListComp comprehension BinOp UnaryOp
    BoolOp Compare IfExp Call Attribute Subscript Slice keyword JoinedStr FormattedValue Add Sub Mult FloorDiv Mod Pow
    BitAnd BitOr BitXor LShift RShift Invert USub UAdd Not And Or Eq NotEq Lt LtE Gt GtE Is IsNot In NotIn
""".split())
BUILTINS = set("""
    len range enumerate zip min max sum abs sorted reversed int str bool list tuple dict set frozenset isinstance ord repr
    any all divmod Exception ValueError TypeError KeyError IndexError LookupError ZeroDivisionError ArithmeticError
    OverflowError RuntimeError NotImplementedError AttributeError StopIteration
""".split())
PYTHONS_OWN = set(dir(__builtins__) if not isinstance(__builtins__, dict) else __builtins__)
METHODS = set("""
    append clear copy count endswith extend find get index insert isalnum isalpha isdigit islower isspace isupper items
    join keys ljust lower lstrip partition pop remove replace reverse rfind rjust rpartition rsplit rstrip setdefault split
    splitlines startswith strip update upper values zfill bit_length
""".split())
WALKS = ("list", "tuple", "dict", "sorted", "sum", "any", "all", "enumerate", "zip", "min", "max")
TAKEN = ("KeyError", "ZeroDivisionError", "StopIteration")
PYTHONS_METHODS = set(dir("") + dir(0) + dir([]) + dir({}) + dir(()) + dir(set()) + dir(b""))
DUNDERS = {"__init__", "__eq__", "__repr__", "__str__", "__len__"}
WORDS = re.compile(
    r"\b(type|typing|typing_extensions|enum|Enum|IntEnum|StrEnum|Flag|IntFlag|Generic|Protocol|ABC|ABCMeta|namedtuple"
    r"|NamedTuple|TypedDict|TYPE_CHECKING|abstractmethod)\b|dataclass|overload|contextmanager")


def package_files():
    return sorted(name for name in os.listdir(PACKAGE) if name != "__pycache__")


def text_of(name):
    with open(os.path.join(PACKAGE, name), encoding="utf-8") as file:
        return file.read()


def named(node):
    """The names that a node binds or reads."""
    if isinstance(node, ast.Name):
        return [node.id]
    if isinstance(node, ast.arg):
        return [node.arg]
    if isinstance(node, ast.Attribute):
        return [node.attr]
    if isinstance(node, (ast.FunctionDef, ast.ClassDef)):
        return [node.name]
    return []


def bound(node):
    if isinstance(node, ast.Name) and isinstance(node.ctx, ast.Store):
        return [node.id]
    return [node.arg] if isinstance(node, ast.arg) else []


def imported(tree):
    """Each name that a file draws from another one, with the module it comes from."""
    return {alias.name: node.module for node in tree.body if isinstance(node, ast.ImportFrom) for alias in node.names}


def defined(tree):
    names = [node.name for node in tree.body if isinstance(node, (ast.FunctionDef, ast.ClassDef))]
    return names + [node.targets[0].id for node in tree.body if isinstance(node, ast.Assign)]


def is_written(node):
    """Whether it is a plain value that is written out."""
    if isinstance(node, (ast.Tuple, ast.List)):
        return all(is_written(part) for part in node.elts)
    if isinstance(node, ast.Dict):
        return all(is_written(part) for part in node.keys + node.values)
    if isinstance(node, ast.UnaryOp):
        return is_written(node.operand)
    return isinstance(node, ast.Constant)


def is_lazy(node):
    """Whether it is a call of which comes something that has to be walked at once."""
    if not isinstance(node, ast.Call):
        return False
    if isinstance(node.func, ast.Attribute):
        return node.func.attr in ("items", "keys", "values")
    return isinstance(node.func, ast.Name) and node.func.id in ("zip", "enumerate", "reversed", "range")


def walkers(tree):
    """The things that are walked on the spot."""
    for node in ast.walk(tree):
        if isinstance(node, (ast.For, ast.comprehension)):
            yield node.iter
        if isinstance(node, ast.Call) and isinstance(node.func, ast.Name) and node.func.id in WALKS:
            yield from node.args
        if isinstance(node, ast.Call) and isinstance(node.func, ast.Attribute) and node.func.attr == "join":
            yield from node.args


class Form(unittest.TestCase):
    def trees(self):
        return {name[:-3]: ast.parse(text_of(name)) for name in package_files()}

    def each_node(self):
        for name in package_files():
            for node in ast.walk(ast.parse(text_of(name))):
                yield f"{name}:{getattr(node, 'lineno', 0)}", node

    def test_files(self):
        self.assertIn("__init__.py", package_files())
        for name in package_files():
            self.assertRegex(name, r"^(__init__|__main__|[a-z][a-z0-9_]*)\.py$")

    def test_lines(self):
        for name in package_files():
            text = text_of(name)
            self.assertRegex(text, r"^[ -~\n]*$", name)
            self.assertLessEqual(text.count("\n"), MOST_FILE_LINES, name)
            self.assertIsNone(WORDS.search(text), name)
            for line in text.split("\n"):
                self.assertLessEqual(len(line), MOST_SIGNS, name)

    def test_nodes(self):
        for where, node in self.each_node():
            self.assertIn(node.__class__.__name__, NODES, where)
            if isinstance(node, ast.Constant):
                self.assertIsInstance(node.value, (int, str, type(None)), where)
                self.assertFalse(isinstance(node.value, str) and "\x25" in node.value, where)
            if isinstance(node, ast.Assign):
                self.assertEqual(len(node.targets), 1, where)
            if isinstance(node, (ast.For, ast.While)):
                self.assertEqual(node.orelse, [], where)
            if isinstance(node, ast.Try):
                self.assertEqual(node.finalbody, [], where)
            if isinstance(node, ast.ListComp):
                self.assertEqual(len(node.generators), 1, where)
                self.assertLessEqual(len(node.generators[0].ifs), 1, where)
            if isinstance(node, ast.BinOp) and isinstance(node.op, ast.Pow):
                self.assertIsInstance(node.right, ast.Constant, where)
                self.assertTrue(0 <= node.right.value <= 64, where)

    def test_defs_and_classes(self):
        for where, node in self.each_node():
            if isinstance(node, ast.FunctionDef):
                self.assertLessEqual(node.end_lineno - node.lineno + 1, MOST_DEF_LINES, where)
                self.assertEqual(node.decorator_list, [], where)
                self.assertIsNone(node.args.vararg or node.args.kwarg, where)
                self.assertEqual(node.args.kwonlyargs + node.args.posonlyargs, [], where)
            if isinstance(node, ast.ClassDef):
                self.assertEqual((node.decorator_list, node.keywords), ([], []), where)
                self.assertLessEqual(len(node.bases), 1, where)
                for inner in node.body:
                    self.assertIsInstance(inner, (ast.FunctionDef, ast.Pass), where)

    def test_imports(self):
        for where, node in self.each_node():
            if isinstance(node, ast.ImportFrom):
                self.assertEqual(node.level, 0, where)
                self.assertRegex(node.module, r"^earlystop\.[a-z0-9_]+$", where)
                self.assertNotIn("*", [alias.name for alias in node.names], where)

    def test_names(self):
        for where, node in self.each_node():
            for name in named(node):
                self.assertTrue(name in DUNDERS or re.match(r"^[A-Za-z][A-Za-z0-9_]*$", name), where)
            for name in bound(node):
                self.assertNotIn(name, PYTHONS_OWN, where)
            if isinstance(node, ast.Name) and node.id in PYTHONS_OWN:
                self.assertIn(node.id, BUILTINS, where)
            if isinstance(node, ast.Attribute) and node.attr in PYTHONS_METHODS:
                self.assertIn(node.attr, METHODS | DUNDERS, where)

    def test_no_local_is_called_like_an_import_or_a_class(self):
        for file, tree in self.trees().items():
            kept = set(imported(tree)) | {node.name for node in tree.body if isinstance(node, ast.ClassDef)}
            for node in ast.walk(tree):
                for name in bound(node):
                    self.assertNotIn(name, kept, f"{file}:{node.lineno}")

    def test_imports_come_from_where_they_are_defined_and_are_used(self):
        trees = self.trees()
        for file, tree in trees.items():
            read = {node.id for node in ast.walk(tree) if isinstance(node, ast.Name)}
            for name, module in imported(tree).items():
                self.assertIn(name, defined(trees[module.partition(".")[2]]), file)
                self.assertIn(name, read, file)

    def test_no_two_files_draw_from_one_another(self):
        drawn = {file: {module.partition(".")[2] for module in imported(tree).values()}
                 for file, tree in self.trees().items()}
        while drawn:
            free = [file for file in drawn if not drawn[file] & set(drawn)]
            self.assertNotEqual(free, [], sorted(drawn))
            for file in free:
                drawn.pop(file)

    def test_each_name_is_defined_once_in_the_package(self):
        found = [name for tree in self.trees().values() for name in defined(tree)]
        self.assertEqual(sorted(found), sorted(set(found)))

    def test_the_top_of_a_file(self):
        for file, tree in self.trees().items():
            self.assertIsNotNone(ast.get_docstring(tree), file)
            for node in tree.body[1:]:
                self.assertIsInstance(node, (ast.ImportFrom, ast.FunctionDef, ast.ClassDef, ast.Assign), file)
                if isinstance(node, ast.Assign):
                    self.assertTrue(is_written(node.value), f"{file}:{node.lineno}")

    def test_is_stands_beside_none_true_false(self):
        for where, node in self.each_node():
            if isinstance(node, ast.Compare) and isinstance(node.ops[0], (ast.Is, ast.IsNot)):
                self.assertIsInstance(node.comparators[0], ast.Constant, where)
                self.assertIn(node.comparators[0].value, (None, True, False), where)

    def test_no_annotation_and_one_plain_target(self):
        for where, node in self.each_node():
            if isinstance(node, ast.FunctionDef):
                self.assertIsNone(node.returns, where)
            if isinstance(node, ast.arg):
                self.assertIsNone(node.annotation, where)
            if isinstance(node, ast.Assign):
                self.assertIsInstance(node.targets[0], (ast.Name, ast.Attribute, ast.Subscript), where)

    def test_no_name_is_a_method_here_and_a_value_there(self):
        methods, fields = set(), set()
        for where, node in self.each_node():
            if isinstance(node, ast.ClassDef):
                methods |= {inner.name for inner in node.body if isinstance(inner, ast.FunctionDef)}
            if isinstance(node, ast.Attribute) and isinstance(node.ctx, ast.Store):
                fields.add(node.attr)
        self.assertEqual(methods & fields, set())

    def test_walked_at_once(self):
        for file, tree in self.trees().items():
            walked = list(walkers(tree))
            for node in ast.walk(tree):
                if is_lazy(node):
                    self.assertIn(node, walked, f"{file}:{node.lineno}")

    def test_sets_are_not_kept(self):
        for file, tree in self.trees().items():
            right = []
            for node in ast.walk(tree):
                if isinstance(node, ast.Call) and isinstance(node.func, ast.Name) and node.func.id in ("len", "sorted"):
                    right.extend(node.args)
                if isinstance(node, ast.Compare):
                    right.extend(node.comparators + [node.left])
            for node in ast.walk(tree):
                if isinstance(node, ast.Call) and isinstance(node.func, ast.Name) and node.func.id == "set":
                    self.assertIn(node, right, f"{file}:{node.lineno}")

    def test_what_is_taken(self):
        own = {node.name for node in self.trees()["errors"].body if isinstance(node, ast.ClassDef)}
        for where, node in self.each_node():
            if isinstance(node, ast.ExceptHandler):
                self.assertIsInstance(node.type, ast.Name, where)
                self.assertIn(node.type.id, own | set(TAKEN), where)

    def test_keywords(self):
        allowed = {"sorted": {"key", "reverse"}, "min": {"key", "default"}, "max": {"key", "default"}, "sum": {"start"},
                   "enumerate": {"start"}, "zip": {"strict"}}
        for where, node in self.each_node():
            if isinstance(node, ast.Call) and node.keywords:
                self.assertIsInstance(node.func, ast.Name, where)
                self.assertLessEqual({keyword.arg for keyword in node.keywords}, allowed.get(node.func.id, set()), where)


if __name__ == "__main__":
    unittest.main()
