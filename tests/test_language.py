"""Some of the rules for the code of the package, as far as they are quickly checked."""

import ast
import builtins
import pathlib
import re
import unittest

PACKAGE = pathlib.Path(__file__).resolve().parent.parent / "neithertells"
BUILTINS = set(
    "len range enumerate zip min max sum abs sorted reversed int str bool bytes list tuple dict set frozenset isinstance "
    "ord repr any all divmod iter next Exception ValueError TypeError KeyError IndexError LookupError ZeroDivisionError "
    "ArithmeticError OverflowError RuntimeError NotImplementedError AttributeError StopIteration NotImplemented "
    "property staticmethod classmethod super".split()
)
BARRED_WORDS = re.compile(
    r"\b(type|typing|typing_extensions|enum|Enum|IntEnum|StrEnum|Flag|IntFlag|Generic|Protocol|ABC|ABCMeta|namedtuple"
    r"|NamedTuple|TypedDict|TYPE_CHECKING|abstractmethod)\b|dataclass|overload|contextmanager"
)
METHODS = "__init__ __eq__ __repr__ __str__ __len__ __enter__ __exit__ __call__ __iter__".split()


def sources():
    return sorted(PACKAGE.rglob("*.py"))


class LanguageTest(unittest.TestCase):
    def nodes(self, *kinds):
        for path in sources():
            for node in ast.walk(ast.parse(path.read_text())):
                if isinstance(node, kinds):
                    yield path.name, node

    def own_errors(self):
        return {node.name for name, node in self.nodes(ast.ClassDef) if name == "errors.py"}

    def test_there_are_files(self):
        self.assertIn("__init__.py", [path.name for path in sources()])
        for path in PACKAGE.iterdir():
            self.assertTrue(path.suffix == ".py" or path.name == "__pycache__", path)

    def test_sizes_and_characters(self):
        for path in sources():
            text = path.read_text()
            self.assertTrue(all(" " <= sign <= "~" or sign == "\n" for sign in text), path)
            self.assertLessEqual(len(text.splitlines()), 399, path)
            self.assertLessEqual(max(len(line) for line in text.splitlines()), 120, path)
            self.assertIsNone(BARRED_WORDS.search(text), path)
        for name, node in self.nodes(ast.FunctionDef):
            self.assertLessEqual(node.end_lineno - node.lineno + 1, 40, (name, node.name))

    def test_imports(self):
        for name, node in self.nodes(ast.Import, ast.ImportFrom):
            self.assertIsInstance(node, ast.ImportFrom, name)
            self.assertEqual(node.level, 0, name)
            self.assertTrue(node.module == "__future__" or node.module.startswith("neithertells."), name)

    def test_module_level(self):
        for path in sources():
            for node in ast.parse(path.read_text()).body:
                self.assertIsInstance(
                    node, (ast.Expr, ast.ImportFrom, ast.FunctionDef, ast.ClassDef, ast.Assign, ast.AnnAssign), path
                )

    def test_names(self):
        for name, node in self.nodes(ast.Name):
            self.assertFalse(node.id.startswith("_"), (name, node.id))
            self.assertTrue(node.id in BUILTINS or not hasattr(builtins, node.id), (name, node.id))
            if isinstance(node.ctx, ast.Store):
                self.assertFalse(hasattr(builtins, node.id), (name, node.id))
        for name, node in self.nodes(ast.FunctionDef, ast.ClassDef):
            self.assertTrue(not node.name.startswith("_") or node.name in METHODS, (name, node.name))
        for name, node in self.nodes(ast.arg):
            self.assertFalse(node.arg.startswith("_") or hasattr(builtins, node.arg), (name, node.arg))

    def test_values(self):
        for name, node in self.nodes(ast.Constant):
            self.assertNotIsInstance(node.value, (float, complex), name)
            self.assertFalse(isinstance(node.value, str) and chr(37) in node.value, name)
        for name, node in self.nodes(ast.Div, ast.Global, ast.Await, ast.AsyncFunctionDef):
            self.fail((name, node))
        for name, node in self.nodes(ast.Compare):
            for sign, other in zip(node.ops, node.comparators):
                if isinstance(sign, (ast.Is, ast.IsNot)):
                    self.assertIsInstance(other, ast.Constant, name)
                    self.assertIn(other.value, (None, True, False), name)

    def test_no_name_is_a_method_and_an_attribute(self):
        methods = {
            inner.name for name, node in self.nodes(ast.ClassDef) for inner in node.body if isinstance(inner, ast.FunctionDef)
        }
        stored = {node.attr for name, node in self.nodes(ast.Attribute) if isinstance(node.ctx, ast.Store)}
        self.assertEqual(methods & stored, set())
        builtin = {attr for kind in (str, int, list, tuple, dict, set, bytes) for attr in dir(kind)}
        self.assertEqual((methods - set(METHODS) | stored) & builtin - {"index"}, set())

    def test_what_own_equality_and_length_rule_out(self):
        for name, node in self.nodes(ast.GeneratorExp, ast.Match, ast.Yield, ast.YieldFrom):
            self.fail((name, node))
        for name, node in self.nodes(ast.Attribute):
            self.assertNotEqual(node.attr, "sort", name)
        for name, node in self.nodes(ast.ExceptHandler):
            caught = node.type.elts if isinstance(node.type, ast.Tuple) else [node.type]
            self.assertLessEqual({error.id for error in caught}, self.own_errors(), name)
        for name, node in self.nodes(ast.Try):
            for inner in node.finalbody:
                self.assertIsInstance(inner, ast.Assign, name)
                self.assertIsInstance(inner.value, (ast.Name, ast.Attribute, ast.Constant), name)

    def test_local_names(self):
        for path in sources():
            tree = ast.parse(path.read_text())
            taken = set()
            for node in tree.body:
                if isinstance(node, ast.ImportFrom):
                    taken.update(alias.name for alias in node.names)
                if isinstance(node, (ast.ClassDef, ast.FunctionDef)):
                    taken.add(node.name)
            local = {node.arg for node in ast.walk(tree) if isinstance(node, ast.arg)}
            local |= {node.id for node in ast.walk(tree) if isinstance(node, ast.Name) and isinstance(node.ctx, ast.Store)}
            self.assertEqual(taken & local, set(), path)


if __name__ == "__main__":
    unittest.main()
