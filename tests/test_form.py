"""The package's files keep to the small part of Python that they are written in.

What can be seen from the syntax alone is looked for here, by the rules' numbers.
"""

import ast
import builtins
import pathlib
import re
import unittest

PACKAGE = pathlib.Path(__file__).resolve().parent.parent / "roamair"

OWN_NAMES = set(
    "len range enumerate zip min max sum abs sorted reversed int str bool list tuple dict set frozenset isinstance "
    "ord repr any all divmod Exception ValueError TypeError KeyError IndexError LookupError ZeroDivisionError "
    "ArithmeticError OverflowError RuntimeError NotImplementedError AttributeError StopIteration".split())

METHODS = set(
    "append clear copy count endswith extend find get index insert isalnum isalpha isdigit islower isspace isupper "
    "items join keys ljust lower lstrip partition pop remove replace reverse rfind rjust rpartition rsplit rstrip "
    "setdefault split splitlines startswith strip update upper values zfill bit_length".split())

NOT_VALUES = set(
    "items keys values pop update append clear extend insert remove reverse setdefault sort args encode format "
    "register mro elements open input version_info with_traceback add_note format_map".split())

WORDS = re.compile(
    r"\b(type|typing|typing_extensions|enum|Enum|IntEnum|StrEnum|Flag|IntFlag|Generic|Protocol|ABC|ABCMeta|"
    r"namedtuple|NamedTuple|TypedDict|TYPE_CHECKING|abstractmethod)\b|dataclass|overload|contextmanager")

STATEMENTS = (
    ast.Assign, ast.AugAssign, ast.If, ast.While, ast.For, ast.Return, ast.Break, ast.Continue, ast.Pass, ast.Raise,
    ast.Expr, ast.FunctionDef, ast.ClassDef, ast.ImportFrom,
)

EXPRESSIONS = (
    ast.Constant, ast.List, ast.Tuple, ast.Dict, ast.BinOp, ast.UnaryOp, ast.Compare, ast.BoolOp, ast.IfExp, ast.Call,
    ast.Attribute, ast.Subscript, ast.Slice, ast.ListComp, ast.Name,
)

PLAIN_NAME = re.compile(r"[A-Za-z][A-Za-z0-9_]*\Z")


def files():
    return sorted(path for path in PACKAGE.rglob("*") if path.is_file() and "__pycache__" not in path.parts)


def trees():
    return [(path, ast.parse(path.read_text("utf-8"))) for path in files()]


def nodes(*kinds):
    return [(path, node) for path, tree in trees() for node in ast.walk(tree) if isinstance(node, kinds)]


def where(path, node):
    return f"{path.name}:{node.lineno}"


class Files(unittest.TestCase):
    def test_only_plain_files_lie_there(self):
        self.assertIn(PACKAGE / "__init__.py", files())
        for path in files():
            self.assertEqual(path.parent, PACKAGE)
            self.assertRegex(path.name, r"\A([a-z][a-z0-9_]*|__init__)\.py\Z")
            self.assertNotIn(path.stem, [name for name in dir(builtins) if name[0] != "_"])

    def test_signs_and_sizes(self):
        for path in files():
            text = path.read_bytes().decode("ascii")
            self.assertEqual([sign for sign in text if not " " <= sign <= "~" and sign != "\n"], [], path)
            self.assertLessEqual(len(text.splitlines()), 400, path)
            self.assertLessEqual(max(map(len, text.splitlines())), 120, path)
            self.assertIsNone(WORDS.search(text), path)

    def test_functions_are_short(self):
        for path, node in nodes(ast.FunctionDef):
            self.assertLessEqual(node.end_lineno - node.lineno + 1, 40, where(path, node))


class Imports(unittest.TestCase):
    def test_only_own_files_by_their_full_names(self):
        defined = {path.stem: top_names(tree) for path, tree in trees()}
        for path, node in nodes(ast.ImportFrom):
            self.assertEqual(node.level, 0, where(path, node))
            self.assertRegex(node.module, r"\Aroamair\.[a-z_]+\Z")
            for alias in node.names:
                self.assertIsNone(alias.asname, where(path, node))
                self.assertIn(alias.name, defined[node.module.split(".")[1]], where(path, node))

    def test_no_two_files_draw_from_one_another(self):
        draws = {path.stem: set() for path in files()}
        for path, node in nodes(ast.ImportFrom):
            draws[path.stem].update((node.module.split(".")[1], "__init__"))
        done = set()
        while len(done) < len(draws):
            ready = {name for name in draws if name not in done and draws[name] <= done}
            self.assertTrue(ready, "a circle of imports")
            done |= ready


def top_names(tree):
    names = []
    for node in tree.body:
        if isinstance(node, (ast.FunctionDef, ast.ClassDef)):
            names.append(node.name)
        if isinstance(node, ast.Assign):
            names.append(node.targets[0].id)
    return names


class Syntax(unittest.TestCase):
    def test_statements_and_expressions(self):
        for path, node in nodes(ast.stmt):
            self.assertIsInstance(node, STATEMENTS, where(path, node))
        for path, node in nodes(ast.expr):
            self.assertIsInstance(node, EXPRESSIONS, where(path, node))
        for path, node in nodes(ast.Assign):
            self.assertEqual(len(node.targets), 1, where(path, node))
            self.assertNotIsInstance(node.targets[0], (ast.Tuple, ast.List), where(path, node))
        for path, node in nodes(ast.For, ast.While):
            self.assertEqual(node.orelse, [], where(path, node))
        for path, node in nodes(ast.ListComp):
            self.assertEqual(len(node.generators), 1, where(path, node))
            self.assertLessEqual(len(node.generators[0].ifs), 1, where(path, node))
        for path, node in nodes(ast.Div, ast.MatMult):
            self.fail(path)

    def test_an_expression_by_itself_is_a_call_or_the_files_docstring(self):
        for path, tree in trees():
            self.assertIsNotNone(ast.get_docstring(tree), path)
            for node in ast.walk(tree):
                if isinstance(node, ast.Expr) and node is not tree.body[0]:
                    self.assertIsInstance(node.value, ast.Call, where(path, node))

    def test_constants(self):
        for path, node in nodes(ast.Constant):
            self.assertIn(type(node.value), (int, str, bool, type(None)), where(path, node))
            if isinstance(node.value, str):
                self.assertNotIn("%", node.value, where(path, node))

    def test_is_stands_beside_none_true_and_false(self):
        for path, node in nodes(ast.Compare):
            for operator, right in zip(node.ops, node.comparators):
                if isinstance(operator, (ast.Is, ast.IsNot)):
                    self.assertIsInstance(right, ast.Constant, where(path, node))
                    self.assertIn(right.value, (None, True, False), where(path, node))

    def test_the_top_of_a_file(self):
        for path, tree in trees():
            names = top_names(tree)
            self.assertEqual(len(names), len(set(names)), path)
            for node in tree.body[1:]:
                self.assertIsInstance(node, (ast.ImportFrom, ast.Assign, ast.FunctionDef, ast.ClassDef))

    def test_functions_and_classes(self):
        for path, node in nodes(ast.FunctionDef):
            given = node.args
            self.assertEqual(node.decorator_list, [])
            self.assertEqual((given.vararg, given.kwarg, given.kwonlyargs, given.posonlyargs), (None, None, [], []))
            self.assertEqual([one.annotation for one in given.args if one.annotation], [])
            self.assertIsNone(node.returns)
        for path, node in nodes(ast.ClassDef):
            self.assertEqual((node.decorator_list, node.keywords), ([], []))
            for part in node.body:
                self.assertIsInstance(part, ast.FunctionDef, where(path, part))


class Names(unittest.TestCase):
    def test_bound_names_are_plain_and_not_pythons_own(self):
        bound = [(path, node.id) for path, node in nodes(ast.Name) if isinstance(node.ctx, ast.Store)]
        bound += [(path, node.arg) for path, node in nodes(ast.arg)]
        bound += [(path, node.name) for path, node in nodes(ast.FunctionDef, ast.ClassDef) if node.name != "__init__"]
        for path, name in bound:
            self.assertRegex(name, PLAIN_NAME, path)
            self.assertFalse(hasattr(builtins, name), (path, name))
            self.assertNotIn(name, NOT_VALUES, path)

    def test_locals_are_not_called_like_a_class_or_an_import(self):
        for path, tree in trees():
            taken = [alias.name for node in ast.walk(tree) if isinstance(node, ast.ImportFrom) for alias in node.names]
            taken += [node.name for node in tree.body if isinstance(node, ast.ClassDef)]
            for function in ast.walk(tree):
                if isinstance(function, ast.FunctionDef):
                    inner = [node.arg for node in ast.walk(function) if isinstance(node, ast.arg)]
                    inner += [node.id for node in ast.walk(function)
                              if isinstance(node, ast.Name) and isinstance(node.ctx, ast.Store)]
                    self.assertEqual([name for name in inner if name in taken], [], where(path, function))

    def test_pythons_own_names(self):
        for path, node in nodes(ast.Name):
            if hasattr(builtins, node.id):
                self.assertIn(node.id, OWN_NAMES, where(path, node))

    def test_methods_and_values(self):
        self.assertTrue(all(PLAIN_NAME.match(node.attr) for path, node in nodes(ast.Attribute)))
        for path, tree in trees():
            calls = [node.func for node in ast.walk(tree) if isinstance(node, ast.Call)]
            for node in ast.walk(tree):
                if isinstance(node, ast.Attribute) and node in calls:
                    self.assertIn(node.attr, METHODS, where(path, node))
                elif isinstance(node, ast.Attribute):
                    self.assertNotIn(node.attr, NOT_VALUES, where(path, node))


if __name__ == "__main__":
    unittest.main()
