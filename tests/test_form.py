"""The files of the package keep to the form that shared/LANGUAGE.md asks for, where it can be read
off the code simply: sizes, characters, imports, builtins and kinds of statements."""

import ast
import builtins
import unittest
from pathlib import Path

PACKAGE = Path(__file__).resolve().parent.parent / "cutandlaid"
FILES = sorted(PACKAGE.rglob("*.py"))

LIBRARY = {
    "heapq": {"heappush", "heappop", "heapify", "heapreplace", "heappushpop"},
    "math": {"gcd", "lcm", "isqrt", "comb", "perm", "factorial"},
    "itertools": {"product", "combinations", "permutations", "chain", "accumulate", "pairwise",
                  "islice", "zip_longest"},
    "collections": {"defaultdict", "deque"},
}
BUILTINS = set("""len range enumerate zip min max sum abs sorted reversed int str bool bytes list
    tuple dict set frozenset isinstance ord repr any all divmod pow iter next map super property
    staticmethod classmethod type Exception ValueError TypeError KeyError IndexError LookupError
    ZeroDivisionError ArithmeticError OverflowError RuntimeError NotImplementedError AttributeError
    StopIteration NotImplemented getattr hasattr setattr""".split())
BARRED_NAMES = set("""register mro elements open input law version_info with_traceback add_note attrgetter
    breakpoint builtins compile copyright credits delattr dir eval exec exit gc globals help id importlib
    license locals methodcaller os quit vars sys typing enum Enum""".split())
BARRED = (ast.AsyncFunctionDef, ast.AsyncFor, ast.AsyncWith, ast.Await, ast.Import, ast.Div)


def trees():
    for file in FILES:
        yield file, ast.parse(file.read_text(encoding="ascii"))


class Form(unittest.TestCase):
    def test_files(self):
        self.assertTrue((PACKAGE / "__init__.py").exists())
        for file in PACKAGE.rglob("*"):
            if "__pycache__" not in file.parts:
                self.assertTrue(file.is_dir() or file.suffix == ".py", file)

    def test_sizes_and_characters(self):
        for file in FILES:
            text = file.read_bytes().decode("ascii")
            self.assertTrue(all(c == "\n" or " " <= c <= "~" for c in text), file)
            self.assertLessEqual(len(text.splitlines()), 399, file)
            self.assertLessEqual(max(map(len, text.splitlines()), default=0), 120, file)

    def test_functions_are_short(self):
        for file, tree in trees():
            for node in ast.walk(tree):
                if isinstance(node, ast.FunctionDef):
                    self.assertLessEqual(node.end_lineno - node.lineno + 1, 40, (file, node.name))

    def test_imports(self):
        for file, tree in trees():
            for node in ast.walk(tree):
                if isinstance(node, ast.ImportFrom):
                    self.assertEqual(node.level, 0)
                    self.assertTrue(all(name.asname is None for name in node.names), file)
                    names = {name.name for name in node.names}
                    if node.module in LIBRARY:
                        self.assertLessEqual(names, LIBRARY[node.module], file)
                    else:
                        self.assertLessEqual(names, defined_in(node.module), file)

    def test_no_two_files_import_from_each_other(self):
        needs = {}
        for file, tree in trees():
            needs[file.stem] = [node.module.split(".")[1] for node in ast.walk(tree)
                                if isinstance(node, ast.ImportFrom)
                                and node.module.startswith("cutandlaid.")]
        done = set()
        while len(done) < len(needs):
            ready = {name for name in needs if name not in done and done.issuperset(needs[name])}
            self.assertTrue(ready, "files import from each other")
            done |= ready

    def test_statements_and_builtins(self):
        for file, tree in trees():
            for node in ast.walk(tree):
                self.assertNotIsInstance(node, BARRED, file)
                if isinstance(node, ast.Constant):
                    self.assertNotIsInstance(node.value, (float, complex), file)
                if isinstance(node, ast.Name) and hasattr(builtins, node.id) and node.id != "_":
                    self.assertIn(node.id, BUILTINS, file)
                    self.assertIsInstance(node.ctx, ast.Load, file)
                if isinstance(node, ast.arg):
                    self.assertFalse(hasattr(builtins, node.arg), (file, node.arg))

    def test_imports_are_used_and_keep_their_names(self):
        for file, tree in trees():
            imported = {name.name for node in ast.walk(tree) if isinstance(node, ast.ImportFrom) for name in node.names}
            read = {node.id for node in ast.walk(tree) if isinstance(node, ast.Name) and isinstance(node.ctx, ast.Load)}
            bound = {node.id for node in ast.walk(tree) if isinstance(node, ast.Name) and isinstance(node.ctx, ast.Store)}
            bound |= {node.arg for node in ast.walk(tree) if isinstance(node, ast.arg)}
            self.assertLessEqual(imported, read, file)
            self.assertEqual(imported & bound, set(), file)

    def test_names_that_are_barred(self):
        for file, tree in trees():
            for node in ast.walk(tree):
                names = [getattr(node, part, None) for part in ("id", "arg", "attr", "name")]
                self.assertFalse(BARRED_NAMES & {name for name in names if isinstance(name, str)}, file)
                if isinstance(node, ast.Constant) and isinstance(node.value, str):
                    self.assertNotIn("%", node.value, file)

    def test_module_level_names_are_bound_once(self):
        for file, tree in trees():
            names = [node.name for node in tree.body if isinstance(node, (ast.FunctionDef, ast.ClassDef))]
            for node in tree.body:
                if isinstance(node, ast.Assign):
                    self.assertTrue(all(isinstance(target, ast.Name) for target in node.targets), file)
                    names.extend(target.id for target in node.targets)
                if isinstance(node, ast.ImportFrom):
                    names.extend(name.name for name in node.names)
            self.assertEqual(len(names), len(set(names)), file)


def defined_in(module):
    """The names that a file of the package defines itself."""
    file = PACKAGE.parent.joinpath(*module.split(".")).with_suffix(".py")
    names = set()
    for node in ast.parse(file.read_text(encoding="ascii")).body:
        if isinstance(node, (ast.FunctionDef, ast.ClassDef)):
            names.add(node.name)
        if isinstance(node, ast.Assign):
            names.update(target.id for target in node.targets)
    return names
