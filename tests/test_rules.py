"""Those rules of the code that a look at the files can tell: sizes, signs, words, imports, names, builtins."""

import ast
import builtins
import re
import unittest
from pathlib import Path

PACKAGE = Path(__file__).resolve().parent.parent / "ledclocks"
BARRED_WORDS = ("type", "typing", "typing_extensions", "enum", "Enum", "IntEnum", "StrEnum", "Flag", "IntFlag",
                "Generic", "Protocol", "ABC", "ABCMeta", "namedtuple", "NamedTuple", "TypedDict", "TYPE_CHECKING",
                "abstractmethod")
BARRED_PARTS = ("dataclass", "overload", "contextmanager")
BUILTINS = set("""len range enumerate zip min max sum abs sorted reversed int str bool list tuple dict set isinstance ord
repr any all divmod ValueError KeyError IndexError LookupError ZeroDivisionError super""".split())
BARRED_NODES = (ast.Global, ast.AsyncFunctionDef, ast.AsyncFor, ast.AsyncWith, ast.Await, ast.Import, ast.Div)
DOUBLE = ("__init__", "__len__", "__str__", "__eq__", "__ne__")


def files():
    return sorted(PACKAGE.glob("**/*.py"))


def functions(tree):
    return [node for node in ast.walk(tree) if isinstance(node, ast.FunctionDef)]


class TestRules(unittest.TestCase):
    def test_there_are_files_and_nothing_else(self):
        self.assertGreater(len(files()), 5)
        others = [path.name for path in PACKAGE.iterdir() if path.suffix != ".py" and path.name != "__pycache__"]
        self.assertEqual(others, [])

    def test_sizes(self):
        for path in files():
            lines = path.read_text().split("\n")
            self.assertLessEqual(len(lines), 399, path)
            self.assertLessEqual(max([len(line) for line in lines]), 120, path)
            for node in functions(ast.parse(path.read_text())):
                self.assertLessEqual(node.end_lineno - node.lineno + 1, 40, (path, node.name))

    def test_signs_and_words(self):
        for path in files():
            text = path.read_text()
            self.assertTrue(all([sign == "\n" or " " <= sign <= "~" for sign in text]), path)
            words = set(re.findall(r"\w+", text))
            self.assertEqual(words & set(BARRED_WORDS), set(), path)
            self.assertEqual([part for part in BARRED_PARTS if part in text], [], path)
            for node in ast.walk(ast.parse(text)):
                if isinstance(node, ast.Constant) and isinstance(node.value, str):
                    self.assertNotIn("%", node.value, path)

    def test_imports(self):
        for path in files():
            tree = ast.parse(path.read_text())
            for node in ast.walk(tree):
                self.assertNotIsInstance(node, BARRED_NODES, path)
                if isinstance(node, ast.ImportFrom):
                    self.assertEqual(node.level, 0, path)
                    self.assertTrue(node.module.startswith("ledclocks."), path)
                    self.check_defined(node)

    def check_defined(self, node):
        """What is imported is defined in the very file that it is imported from."""
        there = ast.parse((PACKAGE / (node.module.split(".")[1] + ".py")).read_text()).body
        names = [row.name for row in there if isinstance(row, (ast.FunctionDef, ast.ClassDef))]
        names += [row.targets[0].id for row in there if isinstance(row, ast.Assign)]
        for alias in node.names:
            self.assertIn(alias.name, names)

    def test_names(self):
        for path in files():
            for node in ast.walk(ast.parse(path.read_text())):
                for name in names_bound(node):
                    self.assertTrue(name in DOUBLE or not name.startswith("_"), (path, name))
                    self.assertTrue(name in DOUBLE or name not in dir(builtins), (path, name))

    def test_builtins_that_are_called(self):
        for path in files():
            tree = ast.parse(path.read_text())
            bound = set([name for node in ast.walk(tree) for name in names_bound(node)])
            for node in ast.walk(tree):
                if isinstance(node, ast.Call) and isinstance(node.func, ast.Name):
                    self.assertTrue(node.func.id in BUILTINS or node.func.id in bound, (path, node.func.id))
                self.assertNotIsInstance(node, ast.GeneratorExp, path)

    def test_no_method_is_an_attribute(self):
        methods, attributes = set(), set()
        for path in files():
            for node in ast.walk(ast.parse(path.read_text())):
                if isinstance(node, ast.ClassDef):
                    methods.update([row.name for row in node.body if isinstance(row, ast.FunctionDef)])
                if isinstance(node, ast.Attribute) and isinstance(node.ctx, ast.Store):
                    attributes.add(node.attr)
        self.assertEqual(methods & attributes, set())


def names_bound(node):
    if isinstance(node, (ast.FunctionDef, ast.ClassDef)):
        return [node.name]
    if isinstance(node, ast.arg):
        return [node.arg]
    if isinstance(node, ast.Name) and isinstance(node.ctx, ast.Store):
        return [node.id]
    if isinstance(node, ast.ImportFrom):
        return [alias.asname or alias.name for alias in node.names]
    return []


if __name__ == "__main__":
    unittest.main()
