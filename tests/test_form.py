"""The package keeps to the small part of Python that it is written in, as far as a walk of its tree can see."""

import ast
import builtins
import pathlib
import re
import unittest

PACKAGE = pathlib.Path(__file__).resolve().parent.parent / "sightbook"

STATEMENTS = (
    ast.Assign, ast.AugAssign, ast.If, ast.While, ast.For, ast.Return, ast.Break, ast.Continue, ast.Pass, ast.Raise,
    ast.Try, ast.Expr, ast.FunctionDef, ast.ClassDef, ast.ImportFrom)
NOT_EXPRESSIONS = (
    ast.SetComp, ast.DictComp, ast.GeneratorExp, ast.NamedExpr, ast.Starred, ast.Await, ast.Yield, ast.YieldFrom,
    ast.Div, ast.MatMult)
OWN_NAMES = set((
    "len range enumerate zip min max sum abs sorted reversed int str bool list tuple dict set isinstance ord repr any "
    "all divmod ValueError KeyError IndexError LookupError ZeroDivisionError StopIteration Exception").split())
METHODS = set((
    "append clear copy count endswith extend find get index insert isalnum isalpha isdigit islower isspace isupper "
    "items join keys ljust lower lstrip partition pop remove replace reverse rfind rjust rpartition rsplit rstrip "
    "setdefault split splitlines startswith strip update upper values zfill bit_length").split())
DUNDERS = {"__init__", "__eq__", "__repr__", "__str__", "__len__"}
WORDS_NOWHERE = set((
    "type typing typing_extensions enum Enum IntEnum StrEnum Flag IntFlag Generic Protocol ABC ABCMeta namedtuple "
    "NamedTuple TypedDict TYPE_CHECKING abstractmethod register mro elements open input with_traceback add_note").split())


def files():
    return sorted(path for path in PACKAGE.iterdir() if path.name != "__pycache__")


def trees():
    return [(path, ast.parse(path.read_text(encoding="ascii"))) for path in files()]


def nodes(*kinds):
    return [(path.name, node) for path, tree in trees() for node in ast.walk(tree) if isinstance(node, kinds)]


def defined():
    """All names of functions, methods and classes of the package, and of the values of its objects."""
    names = {node.name for place, node in nodes(ast.FunctionDef, ast.ClassDef)}
    return names | {node.attr for place, node in nodes(ast.Attribute) if isinstance(node.ctx, ast.Store)}


def called_name(node):
    """The name of the function or method that is called there, or None."""
    if not isinstance(node, ast.Call):
        return None
    return node.func.id if isinstance(node.func, ast.Name) else getattr(node.func, "attr", None)


class Files(unittest.TestCase):
    def test_names_and_signs(self):
        self.assertIn("__init__.py", [path.name for path in files()])
        for path in files():
            self.assertRegex(path.name, r"^[a-z0-9_]+\.py$")
            self.assertRegex(path.read_bytes().decode("ascii"), r"\A[ -~\n]*\Z")

    def test_sizes(self):
        for path in files():
            rows = path.read_text(encoding="ascii").split("\n")
            self.assertLessEqual(len(rows), 400, path.name)
            self.assertLessEqual(max(len(row) for row in rows), 120, path.name)
        for place, node in nodes(ast.FunctionDef):
            self.assertLessEqual(node.end_lineno - node.lineno + 1, 40, (place, node.name))

    def test_words_that_stand_nowhere(self):
        for path in files():
            text = path.read_text(encoding="ascii")
            self.assertFalse(set(re.findall(r"\w+", text)) & WORDS_NOWHERE, path.name)
            self.assertNotRegex(text, "dataclass|overload|contextmanager")


class Tops(unittest.TestCase):
    def test_what_stands_there(self):
        for path, tree in trees():
            self.assertIsNotNone(ast.get_docstring(tree), path.name)
            for node in tree.body[1:]:
                self.assertIsInstance(node, (ast.ImportFrom, ast.FunctionDef, ast.ClassDef, ast.Assign), path.name)

    def test_each_name_once(self):
        for path, tree in trees():
            names = []
            for node in tree.body:
                if isinstance(node, ast.ImportFrom):
                    names.extend(alias.asname or alias.name for alias in node.names)
                elif isinstance(node, (ast.FunctionDef, ast.ClassDef)):
                    names.append(node.name)
                elif isinstance(node, ast.Assign):
                    names.extend(target.id for target in node.targets)
            self.assertEqual(len(names), len(set(names)), path.name)

    def test_imports(self):
        for place, node in nodes(ast.Import, ast.ImportFrom):
            self.assertIsInstance(node, ast.ImportFrom, place)
            self.assertEqual(node.level, 0)
            self.assertRegex(node.module, r"^sightbook\.[a-z]+$")
            drawn = ast.parse((PACKAGE / (node.module.split(".")[1] + ".py")).read_text(encoding="ascii"))
            there = [part.name for part in drawn.body if isinstance(part, (ast.FunctionDef, ast.ClassDef))]
            for alias in node.names:
                self.assertIn(alias.name, there)

    def test_no_ring_of_imports(self):
        drawn = {path.stem: {node.module.split(".")[1] for node in tree.body if isinstance(node, ast.ImportFrom)}
                 for path, tree in trees()}
        while drawn:
            ready = [name for name in drawn if not drawn[name] & set(drawn)]
            self.assertTrue(ready, drawn)
            for name in ready:
                drawn.pop(name)


class Within(unittest.TestCase):
    def test_statements(self):
        for place, node in nodes(ast.stmt):
            self.assertIsInstance(node, STATEMENTS, (place, node.lineno))
            if isinstance(node, (ast.For, ast.While)):
                self.assertFalse(node.orelse)
            if isinstance(node, ast.Assign):
                self.assertEqual(len(node.targets), 1)
            if isinstance(node, ast.Try):
                self.assertFalse(node.finalbody)

    def test_expressions(self):
        for place, node in nodes(ast.expr, ast.operator):
            self.assertNotIsInstance(node, NOT_EXPRESSIONS, place)
            if isinstance(node, ast.ListComp):
                self.assertEqual(len(node.generators), 1)
                self.assertLessEqual(len(node.generators[0].ifs), 1)
            if isinstance(node, ast.Constant):
                self.assertIn(type(node.value), (int, str, bool, type(None)), place)
                self.assertNotIn("%", str(node.value))

    def test_functions(self):
        for place, node in nodes(ast.FunctionDef, ast.Lambda):
            given = node.args
            self.assertFalse(given.vararg or given.kwarg or given.kwonlyargs or given.posonlyargs, place)
        for place, node in nodes(ast.FunctionDef, ast.ClassDef):
            self.assertFalse(node.decorator_list, place)

    def test_names(self):
        for place, node in nodes(ast.Name, ast.arg):
            name = node.id if isinstance(node, ast.Name) else node.arg
            self.assertRegex(name, r"^[A-Za-z]\w*$", place)
            if isinstance(node, ast.Name) and isinstance(node.ctx, ast.Load):
                self.assertTrue(name not in vars(builtins) or name in OWN_NAMES, (place, name))
            else:
                self.assertNotIn(name, vars(builtins), place)

    def test_attributes(self):
        known = METHODS | DUNDERS | defined()
        for place, node in nodes(ast.Attribute):
            self.assertIn(node.attr, known, (place, node.lineno))
        for place, node in nodes(ast.ClassDef):
            for part in node.body:
                self.assertIsInstance(part, (ast.FunctionDef, ast.Pass), (place, node.name))

    def test_no_name_is_a_method_and_a_value(self):
        methods = {part.name for place, node in nodes(ast.ClassDef) for part in node.body
                   if isinstance(part, ast.FunctionDef)}
        stored = {node.attr for place, node in nodes(ast.Attribute) if isinstance(node.ctx, ast.Store)}
        self.assertFalse(methods & stored)
        pythons = {name for kind in (str, int, list, dict, set, bytes) for name in dir(kind)}
        self.assertFalse(stored & pythons)

    def test_no_local_is_called_like_an_import_or_a_class_of_its_file(self):
        for path, tree in trees():
            taken = {alias.name for node in tree.body if isinstance(node, ast.ImportFrom) for alias in node.names}
            taken |= {node.name for node in tree.body if isinstance(node, ast.ClassDef)}
            for node in ast.walk(tree):
                if isinstance(node, ast.arg):
                    self.assertNotIn(node.arg, taken, (path.name, node.lineno))
                if isinstance(node, ast.Name) and isinstance(node.ctx, ast.Store):
                    self.assertNotIn(node.id, taken, (path.name, node.lineno))

    def test_classes_are_called_and_nothing_else(self):
        classes = {node.name for place, node in nodes(ast.ClassDef)}
        used = {ast.Call: "func", ast.Attribute: "value"}
        for path, tree in trees():
            for parent in ast.walk(tree):
                for node in ast.iter_child_nodes(parent):
                    if isinstance(node, ast.Name) and node.id in classes and not isinstance(parent, ast.ClassDef):
                        self.assertIn(type(parent), used, (path.name, node.lineno))
                        self.assertIs(getattr(parent, used[type(parent)]), node, (path.name, node.lineno))

    def test_walked_on_the_spot(self):
        for path, tree in trees():
            for parent in ast.walk(tree):
                for node in ast.iter_child_nodes(parent):
                    if called_name(node) in ("zip", "enumerate", "reversed", "range", "items", "keys", "values"):
                        walked = isinstance(parent, (ast.For, ast.comprehension)) and parent.iter is node
                        taken = called_name(parent) in ("list", "tuple", "dict", "sorted", "sum", "any", "all")
                        self.assertTrue(walked or taken, (path.name, node.lineno))

    def test_keywords(self):
        allowed = {"sorted": {"key", "reverse"}, "min": {"key", "default"}, "max": {"key", "default"},
                   "sum": {"start"}, "enumerate": {"start"}, "zip": {"strict"}}
        for place, node in nodes(ast.Call):
            if called_name(node) in OWN_NAMES | METHODS:
                self.assertLessEqual({word.arg for word in node.keywords}, allowed.get(called_name(node), set()), place)

    def test_powers_are_written(self):
        for place, node in nodes(ast.BinOp):
            if isinstance(node.op, ast.Pow):
                self.assertIsInstance(node.right, ast.Constant, place)

    def test_what_lambdas_read_is_not_assigned_in_loops_around_them(self):
        for place, node in nodes(ast.For, ast.While):
            self.assertFalse([part for part in ast.walk(node) if isinstance(part, ast.Lambda)], (place, node.lineno))

    def test_is_beside_none_true_and_false_alone(self):
        for place, node in nodes(ast.Compare):
            for operator, right in zip(node.ops, node.comparators):
                if isinstance(operator, (ast.Is, ast.IsNot)):
                    self.assertIsInstance(right, ast.Constant, (place, node.lineno))

    def test_sets_are_used_on_the_spot(self):
        inner = [node for place, node in nodes(ast.Call) if isinstance(node.func, ast.Name)]
        within = [part for node in inner if node.func.id in ("sorted", "len") for part in node.args]
        held = {ast.dump(node) for node in within}
        for node in inner:
            if node.func.id == "set":
                self.assertIn(ast.dump(node), held)


if __name__ == "__main__":
    unittest.main()
