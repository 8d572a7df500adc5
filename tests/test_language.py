"""Some of the rules of the part of Python that the package keeps to: those that are plain to look for."""

import ast
import builtins
import pathlib
import re
import unittest

PACKAGE = pathlib.Path(__file__).resolve().parent.parent / "barsplit"

OWN_NAMES = set(
    "len range enumerate zip min max sum abs sorted reversed int str bool list tuple dict set frozenset "
    "isinstance ord repr any all divmod Exception ValueError TypeError KeyError IndexError LookupError "
    "ZeroDivisionError ArithmeticError OverflowError RuntimeError NotImplementedError AttributeError "
    "StopIteration".split())
UNDERSCORED = {"__init__", "__eq__", "__repr__", "__str__", "__len__"}
PARTS_NOT_USED = (
    ast.With, ast.Match, ast.Delete, ast.Global, ast.Nonlocal, ast.Assert, ast.Yield, ast.YieldFrom,
    ast.AsyncFunctionDef, ast.AsyncFor, ast.AsyncWith, ast.Await, ast.Div, ast.SetComp, ast.DictComp,
    ast.GeneratorExp, ast.NamedExpr, ast.Starred, ast.Import, ast.AnnAssign, ast.MatMult)
WORDS_NOT_USED = re.compile(
    r"\b(type|typing|typing_extensions|enum|Enum|IntEnum|StrEnum|Flag|IntFlag|Generic|Protocol|ABC|ABCMeta|"
    r"namedtuple|NamedTuple|TypedDict|TYPE_CHECKING|abstractmethod)\b|dataclass|overload|contextmanager")
METHODS = set(
    "append clear copy count endswith extend find get index insert isalnum isalpha isdigit islower isspace "
    "isupper items join keys ljust lower lstrip partition pop remove replace reverse rfind rjust rpartition "
    "rsplit rstrip setdefault split splitlines startswith strip update upper values zfill bit_length".split())

WALKED = ("zip", "enumerate", "reversed", "range", "items", "keys", "values")
WALKING = ("list", "tuple", "dict", "sorted", "sum", "any", "all", "enumerate", "zip")


def files():
    return sorted(PACKAGE.glob("*.py"))


def nodes():
    for path in files():
        for node in ast.walk(ast.parse(path.read_text())):
            yield f"{path.name}:{getattr(node, 'lineno', 0)}", node


def defined_names():
    """Methods and values that the package's own classes and functions have."""
    names = set()
    for _, node in nodes():
        if isinstance(node, ast.FunctionDef):
            names.add(node.name)
        if isinstance(node, ast.Attribute) and isinstance(node.ctx, ast.Store):
            names.add(node.attr)
    return names


def called(node):
    """The name of the function or method that is called here; None where nothing is."""
    if not isinstance(node, ast.Call):
        return None
    return node.func.id if isinstance(node.func, ast.Name) else node.func.attr


def walked_at(node):
    """What is walked on the spot by this part of a file, as L23 lists it."""
    if isinstance(node, (ast.For, ast.comprehension)):
        return [node.iter]
    name = called(node)
    if name in WALKING or name in ("min", "max") and len(node.args) == 1:
        return node.args[:1]
    if name == "join" and isinstance(node.func.value, ast.Constant):
        return node.args
    return []


def drawn_by(path):
    """The modules from which a file draws, each with the names."""
    return [(node.module.split(".")[1], [name.asname or name.name for name in node.names])
            for node in ast.parse(path.read_text()).body if isinstance(node, ast.ImportFrom)]


def made_at_the_top(path):
    """The names that a file itself binds at its top, each as often as it does."""
    names = []
    for node in ast.parse(path.read_text()).body:
        if isinstance(node, (ast.FunctionDef, ast.ClassDef)):
            names.append(node.name)
        if isinstance(node, ast.Assign):
            names += [target.id for target in node.targets]
    return names


def is_plain(value, within=False):
    """Whether a value may stand at the top of a file: numbers, texts, and lists, tuples and dicts of such."""
    if isinstance(value, (ast.Constant, ast.Name)):
        return True
    if isinstance(value, ast.Tuple):
        return all(is_plain(part, within) for part in value.elts)
    # A list or a dict holds no other one.
    if within or not isinstance(value, (ast.List, ast.Dict)):
        return False
    parts = value.elts if isinstance(value, ast.List) else value.keys + value.values
    return all(is_plain(part, True) for part in parts)


class TestLanguage(unittest.TestCase):
    def test_files(self):
        self.assertIn(PACKAGE / "__init__.py", files())
        for path in PACKAGE.iterdir():
            if path.name != "__pycache__":
                self.assertRegex(path.name, r"\A[a-z0-9_]+\.py\Z")

    def test_signs_and_sizes(self):
        for path in files():
            text = path.read_text()
            self.assertRegex(text, r"\A[ -~\n]*\Z", path.name)
            self.assertIsNone(WORDS_NOT_USED.search(text), path.name)
            lines = text.split("\n")
            self.assertLessEqual(len(lines), 400, path.name)
            self.assertLessEqual(max(len(line) for line in lines), 120, path.name)

    def test_functions(self):
        for where, node in nodes():
            if isinstance(node, (ast.FunctionDef, ast.ClassDef)):
                self.assertEqual(node.decorator_list, [], where)
            if isinstance(node, ast.FunctionDef):
                self.assertLessEqual(node.end_lineno - node.lineno + 1, 40, where)
                asked = node.args
                self.assertFalse(asked.vararg or asked.kwarg or asked.kwonlyargs or asked.posonlyargs, where)

    def test_parts_of_the_language(self):
        for where, node in nodes():
            self.assertNotIsInstance(node, PARTS_NOT_USED, where)
            if isinstance(node, ast.Constant):
                self.assertIn(type(node.value), (int, str, bool, type(None)), where)
                self.assertNotIn("%", str(node.value), where)
            if isinstance(node, ast.ListComp):
                self.assertEqual(len(node.generators), 1, where)
                self.assertLessEqual(len(node.generators[0].ifs), 1, where)
            if isinstance(node, (ast.For, ast.While)):
                self.assertEqual(node.orelse, [], where)
            if isinstance(node, ast.Assign):
                self.assertEqual(len(node.targets), 1, where)
            if isinstance(node, ast.Try):
                self.assertEqual(node.finalbody, [], where)

    def test_names(self):
        for where, node in nodes():
            if isinstance(node, ast.Name):
                self.assertRegex(node.id, r"\A[A-Za-z]\w*\Z", where)
                if hasattr(builtins, node.id):
                    self.assertIn(node.id, OWN_NAMES, where)
                    self.assertIsInstance(node.ctx, ast.Load, where)
            if isinstance(node, ast.arg):
                self.assertRegex(node.arg, r"\A[A-Za-z]\w*\Z", where)
                self.assertFalse(hasattr(builtins, node.arg), where)
            if isinstance(node, ast.FunctionDef) and node.name.startswith("_"):
                self.assertIn(node.name, UNDERSCORED, where)

    def test_attributes(self):
        own = defined_names()
        for where, node in nodes():
            if isinstance(node, ast.Attribute):
                self.assertIn(node.attr, METHODS | own | {"__init__"}, where)

    def test_imports(self):
        for where, node in nodes():
            if isinstance(node, ast.ImportFrom):
                self.assertEqual(node.level, 0, where)
                self.assertRegex(node.module, r"\Abarsplit\.[a-z0-9_]+\Z", where)
                self.assertTrue((PACKAGE / (node.module.split(".")[1] + ".py")).is_file(), where)
                self.assertNotIn("*", [name.name for name in node.names], where)

    def test_names_are_drawn_from_the_file_that_defines_them(self):
        for path in files():
            for module, names in drawn_by(path):
                made = made_at_the_top(PACKAGE / f"{module}.py")
                for name in names:
                    self.assertIn(name, made, (path.name, module))

    def test_no_two_files_draw_from_one_another(self):
        draws = {path.stem: {module for module, _ in drawn_by(path)} for path in files()}
        while draws:
            free = [name for name, modules in draws.items() if not modules & set(draws)]
            self.assertTrue(free, draws)
            for name in free:
                del draws[name]

    def test_plain_values_at_the_top(self):
        for path in files():
            first, *others = ast.parse(path.read_text()).body
            self.assertTrue(isinstance(first, ast.Expr) and isinstance(first.value, ast.Constant), path.name)
            for node in others:
                self.assertIsInstance(node, (ast.ImportFrom, ast.FunctionDef, ast.ClassDef, ast.Assign), path.name)
                if isinstance(node, ast.Assign):
                    self.assertTrue(is_plain(node.value), (path.name, node.lineno))

    def test_each_name_once_at_the_top(self):
        for path in files():
            bound = made_at_the_top(path) + [name for _, names in drawn_by(path) for name in names]
            self.assertEqual(sorted(bound), sorted(set(bound)), path.name)

    def test_no_local_is_called_like_a_name_of_the_top(self):
        for path in files():
            top = set(made_at_the_top(path)) | {name for _, names in drawn_by(path) for name in names}
            for made in ast.parse(path.read_text()).body:
                if isinstance(made, (ast.FunctionDef, ast.ClassDef)):
                    for node in ast.walk(made):
                        if isinstance(node, ast.Name) and isinstance(node.ctx, ast.Store):
                            self.assertNotIn(node.id, top, (path.name, node.lineno))
                        if isinstance(node, ast.arg):
                            self.assertNotIn(node.arg, top, (path.name, node.lineno))

    def test_is_stands_beside_none_and_truths_alone(self):
        for where, node in nodes():
            if isinstance(node, ast.Compare) and any(isinstance(sign, (ast.Is, ast.IsNot)) for sign in node.ops):
                values = [part.value for part in node.comparators if isinstance(part, ast.Constant)]
                self.assertTrue(any(value in (None, True, False) for value in values), where)

    def test_walks_are_walked_on_the_spot(self):
        walked = [part for _, node in nodes() for part in walked_at(node)]
        places = {(part.lineno, part.col_offset, ast.dump(part)) for part in walked}
        for where, node in nodes():
            if called(node) in WALKED:
                self.assertIn((node.lineno, node.col_offset, ast.dump(node)), places, where)

    def test_no_name_is_a_method_and_a_value(self):
        methods = {part.name for _, node in nodes() if isinstance(node, ast.ClassDef)
                   for part in node.body if isinstance(part, ast.FunctionDef)}
        values = {node.attr for _, node in nodes()
                  if isinstance(node, ast.Attribute) and isinstance(node.ctx, ast.Store)}
        self.assertEqual(methods & values, set())

    def test_errors_are_taken_by_name(self):
        for where, node in nodes():
            if isinstance(node, ast.ExceptHandler):
                self.assertIsInstance(node.type, ast.Name, where)
                self.assertNotIn(node.type.id, ("Exception", "TypeError", "ValueError", "LookupError"), where)


if __name__ == "__main__":
    unittest.main()
