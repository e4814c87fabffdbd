"""Some rules of the language of the package, as far as a short test can see them.

The numbers are those of the rules. What is not tested here holds all the same.
"""

import ast
import builtins
import io
import os
import tokenize
import unittest

FOLDER = os.path.join(os.path.dirname(os.path.dirname(os.path.abspath(__file__))), "longstrike")

BUILTINS = set(
    "len range enumerate zip min max sum abs sorted reversed int str bool bytes list tuple dict set frozenset isinstance"
    " ord repr any all divmod super property staticmethod classmethod ValueError TypeError KeyError IndexError"
    " LookupError ZeroDivisionError NotImplemented map iter next".split()
)
LIBRARY = {"heapq", "math", "itertools", "collections", "__future__"}
METHODS = set(
    "append clear copy count endswith extend find get index insert isalnum isalpha isdigit islower isspace isupper items"
    " join keys ljust lower lstrip partition pop remove replace reverse rfind rjust rpartition rsplit rstrip setdefault"
    " split splitlines startswith strip update upper values zfill bit_length add discard removeprefix removesuffix"
    " isascii isdecimal".split()
)
OPERATORS = set(
    "__init__ __eq__ __repr__ __str__ __len__ __lt__ __le__ __gt__ __ge__ __ne__ __add__ __sub__ __and__ __or__"
    " __iadd__ __contains__".split()
)
BANNED_WORDS = {
    "type", "typing", "enum", "Enum", "namedtuple", "NamedTuple", "Protocol", "Generic", "Flag", "dataclass", "overload",
    "contextmanager", "register", "mro", "elements", "open", "input", "law", "eval", "exec", "globals", "locals", "vars",
    "getattr", "hasattr", "setattr", "print", "id", "dir", "compile",
}
NODES = (
    ast.Global, ast.AsyncFunctionDef, ast.AsyncFor, ast.AsyncWith, ast.Await, ast.Div, ast.MatMult, ast.NamedExpr,
    ast.GeneratorExp, ast.AnnAssign, ast.Try,
)


def files():
    return sorted(name for name in os.listdir(FOLDER) if name != "__pycache__")


def source(name):
    with open(os.path.join(FOLDER, name), encoding="utf-8") as file:
        return file.read()


def trees():
    return [(name, ast.parse(source(name))) for name in files()]


def nodes(kind):
    return [(name, node) for name, tree in trees() for node in ast.walk(tree) if isinstance(node, kind)]


def bound_in(name):
    """The names that a file defines itself."""
    body = ast.parse(source(name)).body
    made = [node.name for node in body if isinstance(node, (ast.FunctionDef, ast.ClassDef))]
    return made + [target.id for node in body if isinstance(node, ast.Assign) for target in node.targets]


def is_plain(node):
    """A list of numbers or strings, as the order methods of a class ask for (L5)."""
    if isinstance(node, ast.ListComp):
        node = node.elt
    return isinstance(node, ast.Call) and isinstance(node.func, ast.Name) and node.func.id in ("int", "str", "len")


class Language(unittest.TestCase):

    def test_files(self):
        """L1, L10, L12"""
        self.assertIn("__init__.py", files())
        for name in files():
            self.assertRegex(name, r"\A[a-z_]+\.py\Z")
            lines = source(name).split("\n")
            self.assertLessEqual(len(lines), 400, name)
            for line in lines:
                self.assertLessEqual(len(line), 120, (name, line))
                self.assertRegex(line, r"\A[ -~]*\Z")

    def test_imports(self):
        """L2, L16"""
        for name, node in nodes((ast.Import, ast.ImportFrom)):
            self.assertIsInstance(node, ast.ImportFrom, name)
            self.assertEqual([alias.asname for alias in node.names], [None] * len(node.names))
            if node.module not in LIBRARY:
                package, module = node.module.split(".")
                self.assertEqual(package, "longstrike")
                for alias in node.names:
                    self.assertIn(alias.name, bound_in(module + ".py"), name)

    def test_functions(self):
        """L4, L5, L10, L21"""
        for name, node in nodes(ast.FunctionDef):
            self.assertLessEqual(node.end_lineno - node.lineno + 1, 40, (name, node.name))
            self.assertEqual(node.decorator_list, [])
            if node.name.startswith("__"):
                self.assertIn(node.name, OPERATORS)

    def test_statements(self):
        """L6, L7, L19: only errors of the package are caught"""
        own = bound_in("errors.py")
        for name, node in nodes(NODES):
            self.assertIsInstance(node, ast.Try, (name, node))
            for handler in node.handlers:
                self.assertIn(handler.type.id, own)
            for kept in node.finalbody:
                self.assertIsInstance(kept, ast.Assign)
                self.assertIsInstance(kept.value, ast.Name)
        for name, node in nodes(ast.Constant):
            self.assertNotIsInstance(node.value, (float, complex))
            if isinstance(node.value, str):
                self.assertNotIn("%", node.value)

    def test_one_file_does_not_import_from_another_in_a_ring(self):
        """L16"""
        imported = {name: set() for name in files()}
        for name, node in nodes(ast.ImportFrom):
            if node.module not in LIBRARY:
                imported[name].add(node.module.split(".")[1] + ".py")
        while imported:
            free = [name for name, others in imported.items() if not others & set(imported)]
            self.assertNotEqual(free, [], imported)
            for name in free:
                del imported[name]

    def test_nothing_is_added_in_place(self):
        """L5: a class has an __iadd__"""
        self.assertEqual(nodes(ast.AugAssign), [])

    def test_builtins(self):
        """L8, L15"""
        for name, node in nodes(ast.Name):
            if hasattr(builtins, node.id) and node.id != "_":
                self.assertIn(node.id, BUILTINS, name)
                self.assertIsInstance(node.ctx, ast.Load)
        for name, node in nodes((ast.arg, ast.FunctionDef, ast.ClassDef)):
            word = node.arg if isinstance(node, ast.arg) else node.name
            self.assertTrue(word.startswith("__") or not hasattr(builtins, word), (name, word))

    def test_words(self):
        """L12, L17"""
        for name in files():
            for token in tokenize.generate_tokens(io.StringIO(source(name)).readline):
                if token.type == tokenize.NAME:
                    self.assertNotIn(token.string, BANNED_WORDS, name)
                    if token.string.startswith("__"):
                        self.assertIn(token.string, OPERATORS)

    def test_methods(self):
        """L18, L25"""
        made = {node.name for name, node in nodes(ast.FunctionDef)}
        for name, node in nodes(ast.Call):
            if isinstance(node.func, ast.Attribute):
                self.assertTrue(node.func.attr in METHODS or node.func.attr in made, (name, node.func.attr))
        stored = {node.attr for name, node in nodes(ast.Attribute) if isinstance(node.ctx, ast.Store)}
        self.assertEqual(stored & made, set())

    def test_sorting(self):
        """L5, L25"""
        for name, node in nodes(ast.Call):
            if isinstance(node.func, ast.Name) and node.func.id in ("sorted", "min", "max"):
                keys = [word.value.id for word in node.keywords if word.arg == "key"]
                self.assertTrue(keys == ["len"] or any(is_plain(argument) for argument in node.args), (name, node.lineno))
            if isinstance(node.func, ast.Attribute):
                self.assertNotEqual(node.func.attr, "sort")


if __name__ == "__main__":
    unittest.main()
