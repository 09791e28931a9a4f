"""The files of the package keep to the form that shared/LANGUAGE.md asks for, where it can be read
off the code simply: sizes, characters, imports, builtins and kinds of statements."""

import ast
import builtins
import unittest
from pathlib import Path

PACKAGE = Path(__file__).resolve().parent.parent / "cutandlaid"
FILES = sorted(PACKAGE.rglob("*.py"))

LIBRARY = {
    "heapq": {"heappush", "heappop", "heapify", "heapreplace", "heappushpop"},
    "math": {"gcd", "lcm", "isqrt", "comb", "perm", "factorial"},
    "itertools": {"product", "combinations", "permutations", "chain", "accumulate", "pairwise",
                  "islice", "zip_longest"},
    "collections": {"defaultdict", "deque"},
}
BUILTINS = set("""len range enumerate zip min max sum abs sorted reversed int str bool bytes list
    tuple dict set frozenset isinstance ord repr any all divmod pow iter next map super property
    staticmethod classmethod type Exception ValueError TypeError KeyError IndexError LookupError
    ZeroDivisionError ArithmeticError OverflowError RuntimeError NotImplementedError AttributeError
    StopIteration NotImplemented getattr hasattr setattr""".split())
BARRED = (ast.AsyncFunctionDef, ast.AsyncFor, ast.AsyncWith, ast.Await, ast.Import, ast.Div)


def trees():
    for file in FILES:
        yield file, ast.parse(file.read_text(encoding="ascii"))


class Form(unittest.TestCase):
    def test_files(self):
        self.assertTrue((PACKAGE / "__init__.py").exists())
        for file in PACKAGE.rglob("*"):
            if "__pycache__" not in file.parts:
                self.assertTrue(file.is_dir() or file.suffix == ".py", file)

    def test_sizes_and_characters(self):
        for file in FILES:
            text = file.read_bytes().decode("ascii")
            self.assertTrue(all(c == "\n" or " " <= c <= "~" for c in text), file)
            self.assertLessEqual(len(text.splitlines()), 399, file)
            self.assertLessEqual(max(map(len, text.splitlines()), default=0), 120, file)

    def test_functions_are_short(self):
        for file, tree in trees():
            for node in ast.walk(tree):
                if isinstance(node, ast.FunctionDef):
                    self.assertLessEqual(node.end_lineno - node.lineno + 1, 40, (file, node.name))

    def test_imports(self):
        for file, tree in trees():
            for node in ast.walk(tree):
                if isinstance(node, ast.ImportFrom):
                    self.assertEqual(node.level, 0)
                    self.assertTrue(all(name.asname is None for name in node.names), file)
                    names = {name.name for name in node.names}
                    if node.module in LIBRARY:
                        self.assertLessEqual(names, LIBRARY[node.module], file)
                    else:
                        self.assertLessEqual(names, defined_in(node.module), file)

    def test_no_two_files_import_from_each_other(self):
        needs = {}
        for file, tree in trees():
            needs[file.stem] = [node.module.split(".")[1] for node in ast.walk(tree)
                                if isinstance(node, ast.ImportFrom)
                                and node.module.startswith("cutandlaid.")]
        done = set()
        while len(done) < len(needs):
            ready = {name for name in needs if name not in done and done.issuperset(needs[name])}
            self.assertTrue(ready, "files import from each other")
            done |= ready

    def test_statements_and_builtins(self):
        for file, tree in trees():
            for node in ast.walk(tree):
                self.assertNotIsInstance(node, BARRED, file)
                if isinstance(node, ast.Constant):
                    self.assertNotIsInstance(node.value, (float, complex), file)
                if isinstance(node, ast.Name) and hasattr(builtins, node.id):
                    self.assertIn(node.id, BUILTINS, file)
                    self.assertIsInstance(node.ctx, ast.Load, file)
                if isinstance(node, ast.arg):
                    self.assertFalse(hasattr(builtins, node.arg), (file, node.arg))


def defined_in(module):
    """The names that a file of the package defines itself."""
    file = PACKAGE.parent.joinpath(*module.split(".")).with_suffix(".py")
    names = set()
    for node in ast.parse(file.read_text(encoding="ascii")).body:
        if isinstance(node, (ast.FunctionDef, ast.ClassDef)):
            names.add(node.name)
        if isinstance(node, ast.Assign):
            names.update(target.id for target in node.targets)
    return names
