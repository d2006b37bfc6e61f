"""The package keeps to LANGUAGE.md: the rules that can be seen in the code, rule by rule."""

import ast
import builtins
import pathlib
import re
import unittest

FOLDER = pathlib.Path(__file__).resolve().parent.parent / "claimskept"
FILES = sorted(FOLDER.rglob("*.py"))
STATEMENTS = (
    ast.FunctionDef, ast.ClassDef, ast.Assign, ast.AugAssign, ast.If, ast.While, ast.For, ast.Return, ast.Break,
    ast.Continue, ast.Pass, ast.Raise, ast.Try, ast.Expr, ast.ImportFrom,
)
EXPRESSIONS = (
    ast.Constant, ast.Name, ast.List, ast.Tuple, ast.Dict, ast.BinOp, ast.UnaryOp, ast.BoolOp, ast.Compare, ast.IfExp,
    ast.Call, ast.Attribute, ast.Subscript, ast.Slice, ast.ListComp, ast.JoinedStr, ast.FormattedValue, ast.Lambda,
)
OWN_NAMES = """len range enumerate zip min max sum abs sorted reversed int str bool list tuple dict set frozenset isinstance
ord repr any all divmod Exception ValueError TypeError KeyError IndexError LookupError ZeroDivisionError ArithmeticError
OverflowError RuntimeError NotImplementedError AttributeError StopIteration""".split()
METHODS = """append clear copy count endswith extend find get index insert isalnum isalpha isdigit islower isspace isupper
items join keys ljust lower lstrip partition pop remove replace reverse rfind rjust rpartition rsplit rstrip setdefault
split splitlines startswith strip update upper values zfill bit_length""".split()
NO_NAMES = """register mro elements open input version_info with_traceback add_note attrgetter breakpoint builtins compile
copyright credits delattr dir eval exec exit gc getattr globals hasattr help id importlib license locals methodcaller os
quit setattr super type vars sys format format_map""".split()
NO_WORDS = """type typing typing_extensions enum Enum IntEnum StrEnum Flag IntFlag Generic Protocol ABC ABCMeta namedtuple
NamedTuple TypedDict TYPE_CHECKING abstractmethod""".split()


def nodes(kind):
    for path in FILES:
        for node in ast.walk(ast.parse(path.read_text())):
            if isinstance(node, kind):
                yield path.name, node


def bound_names(function):
    args = function.args
    names = [arg.arg for arg in args.args]
    for node in ast.walk(function):
        if isinstance(node, ast.Name) and isinstance(node.ctx, ast.Store):
            names.append(node.id)
    return names


class Files(unittest.TestCase):
    def test_only_plain_files(self):
        self.assertTrue(FILES)
        for path in FOLDER.rglob("*"):
            if "__pycache__" not in path.parts:
                self.assertRegex(path.name, r"^([a-z][a-z0-9_]*|__init__|__main__)\.py$")
                self.assertNotIn(path.stem, dir(builtins) + ["test", "tests", "testing", "site", "conftest"] + NO_WORDS)

    def test_signs_and_sizes(self):
        for path in FILES:
            text = path.read_text(encoding="utf-8")
            self.assertRegex(text, r"\A[ -~\n]*\Z", path.name)
            self.assertLessEqual(len(text.splitlines()), 400, path.name)
            self.assertLessEqual(max(len(line) for line in text.splitlines()), 120, path.name)

    def test_words_that_stand_nowhere(self):
        for path in FILES:
            words = re.findall(r"\w+", path.read_text())
            self.assertFalse(set(words) & set(NO_WORDS), path.name)
            self.assertNotRegex(path.read_text(), "dataclass|overload|contextmanager")

    def test_size_of_functions(self):
        for name, node in nodes(ast.FunctionDef):
            self.assertLessEqual(node.end_lineno - node.lineno + 1, 40, (name, node.name))


class Tops(unittest.TestCase):
    def test_imports(self):
        for name, node in nodes(ast.ImportFrom):
            self.assertEqual(node.level, 0)
            self.assertEqual(node.module.split(".")[0], "claimskept")
            tree = ast.parse((FOLDER / (node.module.split(".")[1] + ".py")).read_text())
            defined = [part.name for part in tree.body if isinstance(part, (ast.FunctionDef, ast.ClassDef))]
            defined.extend(part.targets[0].id for part in tree.body if isinstance(part, ast.Assign))
            for alias in node.names:
                self.assertIn(alias.name, defined, name)
                self.assertIsNone(alias.asname)

    def test_no_circles(self):
        drawn = {path.stem: set() for path in FILES}
        for name, node in nodes(ast.ImportFrom):
            drawn[name[:-3]].add(node.module.split(".")[1])
        while drawn:
            free = [name for name in drawn if not drawn[name] & set(drawn)]
            self.assertTrue(free, drawn)
            for name in free:
                drawn.pop(name)

    def test_plain_values_bound_once(self):
        for path in FILES:
            bound = []
            for part in ast.parse(path.read_text()).body:
                self.assertIsInstance(part, (ast.Expr, ast.ImportFrom, ast.FunctionDef, ast.ClassDef, ast.Assign))
                if isinstance(part, ast.Assign):
                    ast.literal_eval(part.value)
                    bound.append(part.targets[0].id)
                elif isinstance(part, ast.ImportFrom):
                    bound.extend(alias.name for alias in part.names)
                elif isinstance(part, ast.Expr):
                    self.assertIsInstance(part.value.value, str)
                else:
                    bound.append(part.name)
            self.assertEqual(len(bound), len(set(bound)), path.name)


class Forms(unittest.TestCase):
    def test_statements(self):
        for name, node in nodes(ast.stmt):
            self.assertIsInstance(node, STATEMENTS, (name, node.lineno))
            if isinstance(node, ast.Assign):
                self.assertEqual(len(node.targets), 1)
                self.assertNotIsInstance(node.targets[0], (ast.Tuple, ast.List), (name, node.lineno))
            if isinstance(node, (ast.While, ast.For)):
                self.assertFalse(node.orelse)
            if isinstance(node, (ast.FunctionDef, ast.ClassDef)):
                self.assertFalse(node.decorator_list)

    def test_expressions(self):
        for name, node in nodes(ast.expr):
            self.assertIsInstance(node, EXPRESSIONS, (name, node.lineno))
            if isinstance(node, ast.Constant):
                self.assertIsInstance(node.value, (int, str, bool, type(None)))
                self.assertFalse(isinstance(node.value, str) and "%" in node.value, (name, node.lineno))
            if isinstance(node, ast.BinOp):
                self.assertNotIsInstance(node.op, (ast.Div, ast.Pow, ast.MatMult))
            if isinstance(node, ast.ListComp):
                self.assertEqual(len(node.generators), 1)
                self.assertLessEqual(len(node.generators[0].ifs), 1)
            if isinstance(node, ast.Call):
                self.assertFalse(node.keywords, (name, node.lineno))

    def test_is_stands_beside_none_true_false(self):
        for name, node in nodes(ast.Compare):
            for sign, right in zip(node.ops, node.comparators):
                if isinstance(sign, (ast.Is, ast.IsNot)):
                    self.assertIsInstance(right, ast.Constant)
                    self.assertIn(right.value, (None, True, False))

    def test_parameters(self):
        for name, node in nodes(ast.FunctionDef):
            args = node.args
            self.assertFalse(args.vararg or args.kwarg or args.kwonlyargs or args.posonlyargs)
            self.assertFalse(node.returns or any(arg.annotation for arg in args.args))


class Names(unittest.TestCase):
    def test_pythons_own_names(self):
        for name, node in nodes(ast.Name):
            self.assertNotIn(node.id, NO_NAMES, name)
            if node.id in dir(builtins):
                self.assertIn(node.id, OWN_NAMES, name)
                self.assertIsInstance(node.ctx, ast.Load)

    def test_no_local_is_called_like_something_else(self):
        for path in FILES:
            tree = ast.parse(path.read_text())
            taken = [alias.name for part in tree.body if isinstance(part, ast.ImportFrom) for alias in part.names]
            taken.extend(part.name for part in tree.body if isinstance(part, (ast.ClassDef, ast.FunctionDef)))
            for node in ast.walk(tree):
                if isinstance(node, ast.FunctionDef):
                    for name in bound_names(node):
                        self.assertNotIn(name, taken + dir(builtins), (path.name, node.name))
                        self.assertRegex(name, r"^[A-Za-z][A-Za-z0-9_]*$")

    def test_methods_and_values(self):
        methods = []
        values = []
        for name, node in nodes(ast.ClassDef):
            self.assertLessEqual(len(node.bases), 1)
            methods.extend(part.name for part in node.body if isinstance(part, ast.FunctionDef))
        for name, node in nodes(ast.Attribute):
            self.assertNotIn(node.attr, NO_NAMES, name)
            if isinstance(node.ctx, ast.Store):
                values.append(node.attr)
        self.assertFalse(set(methods) & set(values))
        for value in values:
            for kind in (str, int, list, dict, set, bytes, tuple):
                self.assertFalse(hasattr(kind, value), value)
        for name, node in nodes(ast.Call):
            if isinstance(node.func, ast.Attribute):
                self.assertIn(node.func.attr, METHODS + methods, name)

    def test_sets_are_only_counted(self):
        for path in FILES:
            for found in re.findall(r"\S*\bset\(", path.read_text()):
                self.assertEqual(found, "len(set(", path.name)


if __name__ == "__main__":
    unittest.main()
