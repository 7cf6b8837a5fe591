"""Those rules of LANGUAGE.md that are easily looked up in the package's files."""

import ast
import builtins
import re
import unittest
import warnings
from pathlib import Path

FOLDER = Path(__file__).resolve().parent.parent / "oldways"
FILES = sorted(path for path in FOLDER.rglob("*") if "__pycache__" not in path.parts)

LIBRARY = {
    "heapq": "heappush heappop heapify heapreplace heappushpop",
    "math": "gcd lcm isqrt comb perm factorial",
    "itertools": "product combinations permutations chain accumulate pairwise islice zip_longest",
    "collections": "defaultdict deque",
}
BUILTINS = """
    len range enumerate zip min max sum abs sorted reversed int str bool bytes list tuple dict set
    frozenset isinstance ord repr any all divmod pow getattr hasattr setattr iter next map super
    property staticmethod classmethod Exception ValueError TypeError KeyError IndexError
    LookupError ZeroDivisionError ArithmeticError OverflowError RuntimeError NotImplementedError
    AttributeError StopIteration NotImplemented type object
""".split()
BARRED_NODES = (
    ast.AsyncFunctionDef, ast.AsyncFor, ast.AsyncWith, ast.Await, ast.Div, ast.MatMult,
    ast.TryStar, ast.Import,
)
BARRED_NAMES = "register mro elements open input law version_info with_traceback add_note".split()


def trees():
    """Each file's name, text and tree."""
    for path in FILES:
        text = path.read_text(encoding="utf-8")
        yield path.name, text, ast.parse(text)


def file_names():
    """The names of all files."""
    return [path.name for path in FILES]


def nodes(*kinds):
    """Each node of these kinds, with its file's name."""
    for name, _, tree in trees():
        for node in ast.walk(tree):
            if isinstance(node, kinds):
                yield name, node


class TestFiles(unittest.TestCase):
    def test_only_plain_python_files(self):
        self.assertIn(FOLDER / "__init__.py", FILES)
        for path in FILES:
            self.assertTrue(path.is_dir() or re.fullmatch(r"[a-z0-9_]+\.py", path.name), path)

    def test_size(self):
        for name, text, _ in trees():
            rows = text.splitlines()
            self.assertLessEqual(len(rows), 399, name)
            self.assertLessEqual(max(map(len, rows)), 120, name)
        for name, node in nodes(ast.FunctionDef):
            self.assertLessEqual(node.end_lineno - node.lineno + 1, 40, (name, node.name))

    def test_characters(self):
        for name, text, _ in trees():
            self.assertIsNone(re.search(r"[^ -~\n]", text), name)

    def test_no_warnings(self):
        for name, text, _ in trees():
            with warnings.catch_warnings():
                warnings.simplefilter("error")
                compile(text, name, "exec")


class TestCode(unittest.TestCase):
    def test_imports_name_the_file_that_defines(self):
        for name, node in nodes(ast.ImportFrom):
            names = [alias.name for alias in node.names]
            if node.module in LIBRARY:
                self.assertLessEqual(set(names), set(LIBRARY[node.module].split()), name)
                continue
            self.assertTrue(node.level == 0 and node.module.startswith("oldways."), name)
            tree = ast.parse((FOLDER / (node.module.split(".")[1] + ".py")).read_text())
            own = {getattr(part, "name", None) for part in tree.body}
            own |= {part.targets[0].id for part in tree.body if isinstance(part, ast.Assign)}
            self.assertLessEqual(set(names), own, name)

    def test_no_two_files_import_from_each_other(self):
        needs = {}
        for name, _, tree in trees():
            parts = [part for part in tree.body if isinstance(part, ast.ImportFrom)]
            needs[name] = {part.module.split(".")[-1] + ".py" for part in parts} & set(file_names())
        while needs:
            free = [name for name, needed in needs.items() if not needed & set(needs)]
            self.assertTrue(free, needs)
            for name in free:
                del needs[name]

    def test_no_other_thing_has_the_name_of_an_import_or_a_class(self):
        for name, _, tree in trees():
            parts = [part for part in tree.body if isinstance(part, ast.ImportFrom)]
            names = {alias.name for part in parts for alias in part.names}
            names |= {part.name for part in tree.body if isinstance(part, ast.ClassDef)}
            for node in ast.walk(tree):
                if isinstance(node, ast.arg):
                    self.assertNotIn(node.arg, names, (name, node.lineno))
                if isinstance(node, ast.Name) and not isinstance(node.ctx, ast.Load):
                    self.assertNotIn(node.id, names, (name, node.lineno))
                if isinstance(node, ast.FunctionDef):
                    self.assertNotIn(node.name, names, (name, node.lineno))

    def test_nothing_that_is_barred(self):
        for name, node in nodes(*BARRED_NODES):
            self.fail(f"{name}, line {getattr(node, 'lineno', '?')}: {type(node).__name__}")

    def test_builtins(self):
        barred = set(dir(builtins)) - set(BUILTINS)
        for name, node in nodes(ast.Name):
            self.assertNotIn(node.id, barred | set(BARRED_NAMES), name)
            if not isinstance(node.ctx, ast.Load):
                self.assertNotIn(node.id, dir(builtins), name)
        for name, node in nodes(ast.arg):
            self.assertNotIn(node.arg, dir(builtins), name)

    def test_no_float(self):
        for name, node in nodes(ast.Constant):
            self.assertNotIsInstance(node.value, (float, complex), name)

    def test_own_names(self):
        for name, node in nodes(ast.FunctionDef, ast.ClassDef):
            self.assertNotIn(node.name, set(dir(builtins)) | set(BARRED_NAMES), name)
            if node.name.startswith("__"):
                self.assertRegex(node.name, r"^__[a-z]+__$")
            else:
                self.assertRegex(node.name, r"^_?[A-Za-z][A-Za-z0-9_]*$")

    def test_any_and_the_like_take_no_generator(self):
        for name, node in nodes(ast.Call):
            if getattr(node.func, "id", "") in "any all min max sum sorted".split():
                kinds = [type(part) for part in node.args]
                self.assertNotIn(ast.GeneratorExp, kinds, (name, node.lineno))


if __name__ == "__main__":
    unittest.main()
