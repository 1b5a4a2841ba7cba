"""The package keeps to the small part of Python that it is written in: the rules that are plain to see."""

import ast
import builtins
import os
import re
import unittest

FOLDER = os.path.join(os.path.dirname(os.path.dirname(os.path.abspath(__file__))), "watchedrun")

BUILTINS = set(
    "len range enumerate zip min max sum abs sorted reversed int str bool bytes list tuple dict set frozenset isinstance"
    " ord repr any all divmod iter next super property staticmethod classmethod object Exception ValueError TypeError"
    " KeyError IndexError LookupError ZeroDivisionError ArithmeticError OverflowError RuntimeError NotImplementedError"
    " AttributeError StopIteration NotImplemented".split()
)

BARRED_WORDS = (
    "type", "typing", "typing_extensions", "enum", "Enum", "IntEnum", "StrEnum", "Flag", "IntFlag", "Generic",
    "Protocol", "ABC", "ABCMeta", "namedtuple", "NamedTuple", "TypedDict", "TYPE_CHECKING", "abstractmethod",
)

COMPARING = ("any", "all", "min", "max", "sum", "sorted")

BARRED_NAMES = ("register", "mro", "elements", "open", "input", "law", "version_info", "with_traceback", "add_note")


def sources():
    for name in sorted(os.listdir(FOLDER)):
        if name != "__pycache__":
            with open(os.path.join(FOLDER, name), encoding="utf-8") as source:
                yield name, source.read()


def names_bound(node):
    if isinstance(node, ast.Name) and isinstance(node.ctx, ast.Store):
        yield node.id
    if isinstance(node, (ast.FunctionDef, ast.ClassDef)):
        yield node.name
    if isinstance(node, ast.arg):
        yield node.arg
    if isinstance(node, ast.alias):
        yield node.asname or node.name


class LanguageTest(unittest.TestCase):

    def test_files(self):
        for name, text in sources():
            self.assertRegex(name, r"^(__init__|__main__|[a-z][a-z0-9_]*)\.py$")
            self.assertRegex(text, r"^[ -~\n]*$")
            lines = text.split("\n")
            self.assertLessEqual(len(lines) - 1, 399, name)
            self.assertLessEqual(max(len(line) for line in lines), 120, name)
            for word in BARRED_WORDS:
                self.assertIsNone(re.search(rf"\b{word}\b", text), (name, word))
            for word in ("dataclass", "overload", "contextmanager"):
                self.assertNotIn(word, text, name)

    def test_module_level(self):
        allowed = (ast.ImportFrom, ast.FunctionDef, ast.ClassDef, ast.Assign)
        for name, text in sources():
            for node in ast.parse(text).body:
                docstring = isinstance(node, ast.Expr) and isinstance(node.value, ast.Constant)
                self.assertTrue(docstring or isinstance(node, allowed), (name, node.lineno))
                if isinstance(node, ast.ImportFrom):
                    self.assertRegex(node.module, r"^(watchedrun\.[a-z_]+|__future__)$")
                    self.assertEqual(node.level, 0)

    def test_statements_and_expressions(self):
        barred = (ast.Import, ast.Global, ast.AsyncFunctionDef, ast.Await, ast.Div)
        for name, text in sources():
            for node in ast.walk(ast.parse(text)):
                where = (name, getattr(node, "lineno", None))
                self.assertNotIsInstance(node, barred, where)
                if isinstance(node, ast.FunctionDef):
                    self.assertLessEqual(node.end_lineno - node.lineno + 1, 40, where)
                if isinstance(node, ast.Constant):
                    self.assertNotIsInstance(node.value, (float, complex), where)
                    self.assertNotIn("%", str(node.value), where)
                if isinstance(node, ast.Name) and isinstance(node.ctx, ast.Load) and hasattr(builtins, node.id):
                    self.assertIn(node.id, BUILTINS, where)

    def test_no_generator_expression_is_compared(self):
        for name, text in sources():
            for node in ast.walk(ast.parse(text)):
                if isinstance(node, ast.Call) and isinstance(node.func, ast.Name) and node.func.id in COMPARING:
                    for told in node.args:
                        self.assertNotIsInstance(told, ast.GeneratorExp, (name, node.lineno))

    def test_no_name_is_a_method_and_an_attribute(self):
        methods, attributes = set(), set()
        for _, text in sources():
            for node in ast.walk(ast.parse(text)):
                if isinstance(node, ast.ClassDef):
                    methods.update(inner.name for inner in node.body if isinstance(inner, ast.FunctionDef))
                if isinstance(node, ast.Attribute) and isinstance(node.ctx, ast.Store):
                    attributes.add(node.attr)
        self.assertEqual(methods & attributes, set())

    def test_no_local_name_is_that_of_an_import_or_a_class(self):
        for name, text in sources():
            tree = ast.parse(text)
            taken = {alias.asname or alias.name for node in tree.body if isinstance(node, ast.ImportFrom)
                     for alias in node.names}
            taken.update(node.name for node in tree.body if isinstance(node, ast.ClassDef))
            for outer in ast.walk(tree):
                if isinstance(outer, ast.FunctionDef):
                    for node in ast.walk(outer):
                        self.assertEqual(taken & set(names_bound(node)), set(), (name, outer.name))

    def test_names(self):
        for name, text in sources():
            for node in ast.walk(ast.parse(text)):
                for bound in names_bound(node):
                    where = (name, bound)
                    if bound.startswith("__") and bound.endswith("__"):
                        continue
                    self.assertRegex(bound, r"^[A-Za-z][A-Za-z0-9_]*$", where)
                    self.assertNotIn(bound, BARRED_NAMES, where)
                    self.assertFalse(hasattr(builtins, bound), where)


if __name__ == "__main__":
    unittest.main()
