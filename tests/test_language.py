"""The package's own files keep to the rules of LANGUAGE.md, as far as a look at their form can tell."""

import ast
import builtins
import pathlib
import re
import unittest

PACKAGE = pathlib.Path(__file__).resolve().parent.parent / "treefilters"

OWN_NAMES = """len range enumerate zip min max sum abs sorted reversed int str bool list tuple dict set frozenset
isinstance ord repr any all divmod Exception ValueError TypeError KeyError IndexError LookupError ZeroDivisionError
ArithmeticError OverflowError RuntimeError NotImplementedError AttributeError StopIteration""".split()

OWN_METHODS = """append clear copy count endswith extend find get index insert isalnum isalpha isdigit islower isspace
isupper items join keys ljust lower lstrip partition pop remove replace reverse rfind rjust rpartition rsplit rstrip
setdefault split splitlines startswith strip update upper values zfill bit_length""".split()

NOT_AS_VALUES = """items keys values pop update append clear extend insert remove reverse setdefault sort args encode
format""".split()

NOT_NAMED = """register mro elements open input version_info with_traceback add_note attrgetter breakpoint builtins
compile copyright credits delattr dir eval exec exit gc getattr globals hasattr help id importlib license locals
methodcaller os quit setattr super vars sys format format_map""".split()

NOT_WRITTEN = """type typing typing_extensions enum Enum IntEnum StrEnum Flag IntFlag Generic Protocol ABC ABCMeta
namedtuple NamedTuple TypedDict TYPE_CHECKING abstractmethod""".split()

NODES = (
    ast.Module, ast.FunctionDef, ast.ClassDef, ast.ImportFrom, ast.alias, ast.arguments, ast.arg, ast.Assign,
    ast.AugAssign, ast.If, ast.While, ast.For, ast.Return, ast.Break, ast.Continue, ast.Pass, ast.Raise, ast.Try,
    ast.ExceptHandler, ast.Expr, ast.Constant, ast.List, ast.Tuple, ast.Dict, ast.BinOp, ast.UnaryOp, ast.BoolOp,
    ast.Compare, ast.IfExp, ast.Call, ast.keyword, ast.Attribute, ast.Subscript, ast.Slice, ast.ListComp,
    ast.comprehension, ast.Name, ast.Lambda, ast.JoinedStr, ast.FormattedValue, ast.operator, ast.unaryop,
    ast.boolop, ast.cmpop, ast.expr_context)

METHODS = ["__init__", "__eq__", "__repr__", "__str__", "__len__"]
WALKERS = ["zip", "enumerate", "reversed", "range"]
WALKED_IN = ["list", "tuple", "dict", "sorted", "sum", "any", "all", "enumerate", "zip", "min", "max"]


def files():
    return sorted(PACKAGE.glob("*.py"))


def parsed(path):
    tree = ast.parse(path.read_text())
    for node in ast.walk(tree):
        for child in ast.iter_child_nodes(node):
            child.parent = node
    return tree


def nodes(*kinds):
    return [(path.name, node) for path in files() for node in ast.walk(parsed(path)) if isinstance(node, kinds)]


def bound_names(tree):
    """Every name that a file binds, but attributes."""
    for node in ast.walk(tree):
        if isinstance(node, ast.Name) and isinstance(node.ctx, ast.Store):
            yield node.id
        if isinstance(node, ast.arg):
            yield node.arg
        if isinstance(node, (ast.FunctionDef, ast.ClassDef)):
            yield node.name
        if isinstance(node, ast.ExceptHandler) and node.name:
            yield node.name


class Files(unittest.TestCase):

    def test_there_is_a_package(self):
        self.assertIn(PACKAGE / "desk.py", files())

    def test_names_of_files(self):
        for path in PACKAGE.iterdir():
            if path.name != "__pycache__":
                self.assertRegex(path.name, r"^[a-z0-9_]+\.py$")
                self.assertTrue(path.stem == "__init__" or not hasattr(builtins, path.stem), path.name)

    def test_lines(self):
        for path in files():
            lines = path.read_text().split("\n")
            self.assertLessEqual(len(lines), 401, path.name)
            for line in lines:
                self.assertRegex(line, r"^[ -~]{0,120}$", path.name)

    def test_words(self):
        for path in files():
            some = path.read_text()
            self.assertEqual([word for word in re.findall(r"\w+", some) if word in NOT_WRITTEN], [], path.name)
            self.assertNotRegex(some, "dataclass|overload|contextmanager")

    def test_functions_are_short(self):
        for name, node in nodes(ast.FunctionDef):
            self.assertLessEqual(node.end_lineno - node.lineno + 1, 40, (name, node.name))


class Forms(unittest.TestCase):

    def test_only_what_is_listed(self):
        for path in files():
            for node in ast.walk(parsed(path)):
                self.assertIsInstance(node, NODES, (path.name, getattr(node, "lineno", 0)))

    def test_functions_and_classes(self):
        for name, node in nodes(ast.FunctionDef):
            self.assertEqual(node.decorator_list, [], name)
            given = node.args
            self.assertEqual([given.vararg, given.kwarg, given.kwonlyargs, given.posonlyargs], [None, None, [], []])
            self.assertEqual([one.annotation for one in given.args if one.annotation] + [node.returns], [None])
        for name, node in nodes(ast.ClassDef):
            self.assertIsInstance(node.parent, ast.Module, name)
            self.assertLessEqual(len(node.bases), 1, name)
            self.assertEqual(node.decorator_list + node.keywords, [], name)
            for one in node.body:
                self.assertIsInstance(one, (ast.FunctionDef, ast.Expr, ast.Pass), name)
            methods = [one.name for one in node.body if isinstance(one, ast.FunctionDef)]
            self.assertEqual(len(methods), len(set(methods)), name)

    def test_top_of_modules(self):
        for path in files():
            body = parsed(path).body
            self.assertIsInstance(body[0].value.value, str, path.name)
            for node in body[1:]:
                self.assertIsInstance(node, (ast.ImportFrom, ast.FunctionDef, ast.ClassDef, ast.Assign), path.name)
                if isinstance(node, ast.Assign):
                    self.assertIsInstance(node.value, (ast.Constant, ast.Tuple, ast.List, ast.Dict), path.name)
            bound = [node.name for node in body if isinstance(node, (ast.FunctionDef, ast.ClassDef))]
            bound += [node.targets[0].id for node in body if isinstance(node, ast.Assign)]
            bound += [one.name for node in body if isinstance(node, ast.ImportFrom) for one in node.names]
            self.assertEqual(len(bound), len(set(bound)), path.name)

    def test_assignments_and_loops(self):
        for name, node in nodes(ast.Assign):
            self.assertEqual(len(node.targets), 1, name)
            self.assertNotIsInstance(node.targets[0], (ast.Tuple, ast.List), (name, node.lineno))
        for name, node in nodes(ast.For, ast.While):
            self.assertEqual(node.orelse, [], name)
        for name, node in nodes(ast.ListComp):
            self.assertEqual(len(node.generators), 1, name)
            self.assertLessEqual(len(node.generators[0].ifs), 1, name)

    def test_values(self):
        for name, node in nodes(ast.Constant):
            self.assertIn(node.value.__class__, (int, str, bool, None.__class__), name)
            if isinstance(node.value, str):
                self.assertNotIn("%", node.value, name)
        for name, node in nodes(ast.Div, ast.MatMult):
            self.fail(name)
        for name, node in nodes(ast.BinOp):
            if isinstance(node.op, ast.Pow):
                self.assertIn(getattr(node.right, "value", None), range(65), name)
        for name, node in nodes(ast.Compare):
            for operator, right in zip(node.ops, node.comparators):
                if isinstance(operator, (ast.Is, ast.IsNot)):
                    self.assertIsInstance(right, ast.Constant, name)

    def test_errors(self):
        for name, node in nodes(ast.Try):
            self.assertEqual(node.finalbody, [], name)
            for handler in node.handlers:
                self.assertIsNotNone(handler.type, name)
                self.assertNotIn(getattr(handler.type, "id", ""), ["Exception", "TypeError"], name)
        for name, node in nodes(ast.Raise):
            self.assertIsInstance(node.exc, ast.Call, name)

    def test_walked_at_once(self):
        for name, node in nodes(ast.Call):
            walker = isinstance(node.func, ast.Name) and node.func.id in WALKERS
            walker = walker or isinstance(node.func, ast.Attribute) and node.func.attr in ["items", "keys", "values"]
            if walker and isinstance(node.parent, ast.Call):
                self.assertIn(getattr(node.parent.func, "id", ""), WALKED_IN, (name, node.lineno))
            elif walker:
                self.assertIsInstance(node.parent, (ast.For, ast.comprehension), (name, node.lineno))

    def test_sets(self):
        for name, node in nodes(ast.Call):
            if isinstance(node.func, ast.Name) and node.func.id in ["set", "frozenset"]:
                beside = isinstance(node.parent, ast.Compare)
                within = isinstance(node.parent, ast.Call) and node.parent.func.id in ["sorted", "len"]
                self.assertTrue(beside or within, (name, node.lineno))


class Names(unittest.TestCase):

    def test_plain(self):
        for path in files():
            for name in bound_names(parsed(path)):
                if name not in METHODS:
                    self.assertRegex(name, "^[A-Za-z][A-Za-z0-9_]*$", path.name)
                    self.assertFalse(hasattr(builtins, name), (path.name, name))
                    self.assertNotIn(name, NOT_NAMED, path.name)

    def test_python_s_own(self):
        for path in files():
            tree = parsed(path)
            known = list(bound_names(tree)) + OWN_NAMES
            known += [one.name for node in ast.walk(tree) if isinstance(node, ast.ImportFrom) for one in node.names]
            for node in ast.walk(tree):
                if isinstance(node, ast.Name):
                    self.assertIn(node.id, known, (path.name, node.lineno))

    def test_locals_are_not_called_like_imports_or_classes(self):
        for path in files():
            tree = parsed(path)
            taken = [one.name for node in ast.walk(tree) if isinstance(node, ast.ImportFrom) for one in node.names]
            taken += [node.name for node in ast.walk(tree) if isinstance(node, ast.ClassDef)]
            given = [node.arg for node in ast.walk(tree) if isinstance(node, ast.arg)]
            given += [node.id for node in ast.walk(tree) if isinstance(node, ast.Name) and isinstance(node.ctx, ast.Store)]
            self.assertEqual([name for name in given if name in taken], [], path.name)

    def test_methods_and_values(self):
        methods = [node.name for _, node in nodes(ast.FunctionDef) if isinstance(node.parent, ast.ClassDef)]
        values = [node.attr for _, node in nodes(ast.Attribute) if isinstance(node.ctx, ast.Store)]
        self.assertEqual([name for name in values if name in methods], [])
        self.assertEqual([name for name in values if name in NOT_AS_VALUES], [])
        for owner in [str, int, list, dict, set, bytes, tuple]:
            taken = [name for name in methods if hasattr(owner, name)]
            self.assertEqual([name for name in taken if name not in METHODS + OWN_METHODS + ["add", "discard"]], [])
        for name, node in nodes(ast.Attribute):
            self.assertIn(node.attr, methods + values + OWN_METHODS, (name, node.lineno))
            self.assertNotIn(node.attr, NOT_NAMED, name)

    def test_imports(self):
        drawn = {path.stem: [] for path in files()}
        for path in files():
            for node in ast.walk(parsed(path)):
                if isinstance(node, ast.ImportFrom):
                    self.assertEqual(node.level, 0, path.name)
                    self.assertRegex(node.module, r"^treefilters\.[a-z0-9_]+$")
                    source = node.module.split(".")[1]
                    drawn[path.stem].append(source)
                    self.defined(source, [one.name for one in node.names])
        while drawn:
            free = [stem for stem in drawn if not [one for one in drawn[stem] if one in drawn]]
            self.assertTrue(free, drawn)
            drawn = {stem: drawn[stem] for stem in drawn if stem not in free}

    def defined(self, source, names):
        body = parsed(PACKAGE / f"{source}.py").body
        own = [node.name for node in body if isinstance(node, (ast.FunctionDef, ast.ClassDef))]
        own += [node.targets[0].id for node in body if isinstance(node, ast.Assign)]
        self.assertEqual([name for name in names if name not in own], [], source)


if __name__ == "__main__":
    unittest.main()
