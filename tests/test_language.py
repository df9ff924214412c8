"""The rules of the language subset that can be checked mechanically and are easily forgotten."""

import ast
import builtins
import pathlib
import re
import unittest

PACKAGE = pathlib.Path(__file__).resolve().parent.parent / "gridknot"

BUILTINS = set(
    """len range enumerate zip min max sum abs sorted reversed int str bool bytes list tuple dict set frozenset
    isinstance ord repr any all divmod pow getattr hasattr setattr iter next NotImplemented
    Exception ValueError TypeError KeyError IndexError LookupError ZeroDivisionError ArithmeticError OverflowError
    RuntimeError NotImplementedError AttributeError StopIteration""".split()
)

LIBRARY = {
    "heapq": set("heappush heappop heapify heapreplace heappushpop".split()),
    "math": set("gcd lcm isqrt comb perm factorial".split()),
    "itertools": set(
        "product combinations permutations chain accumulate pairwise islice zip_longest".split()
    ),
    "collections": {"defaultdict"},
}

METHODS = set(
    """append clear copy count endswith extend find get index insert isalnum isalpha isdigit islower isspace isupper items
    join keys ljust lower lstrip partition pop remove replace reverse rfind rjust rpartition rsplit rstrip setdefault
    split splitlines startswith strip update upper values zfill bit_length""".split()
)

# Doctests leave a builtin "_" behind.
PYTHONS_OWN = set(dir(builtins)) - {"_"}

NO_NODES = (
    ast.Global, ast.AsyncFunctionDef, ast.Await, ast.AsyncFor, ast.AsyncWith, ast.Import, ast.Div,
)


def package_files():
    return sorted(path for path in PACKAGE.rglob("*") if path.is_file() and "__pycache__" not in path.parts)


def package_trees():
    return [(path, ast.parse(path.read_text(encoding="ascii"))) for path in package_files()]


class Language(unittest.TestCase):
    def test_files_and_characters(self):
        self.assertIn(PACKAGE / "__init__.py", package_files())
        for path in package_files():
            text = path.read_bytes().decode("ascii")
            self.assertRegex(path.name, r"^[a-z0-9_]+\.py$")
            self.assertFalse([sign for sign in text if sign != "\n" and not " " <= sign <= "~"], path)
            self.assertLessEqual(len(text.split("\n")) - 1, 399, path)
            self.assertLessEqual(max(len(line) for line in text.split("\n")), 120, path)

    def test_functions_are_short_and_undecorated(self):
        for path, tree in package_trees():
            for node in ast.walk(tree):
                if isinstance(node, ast.FunctionDef):
                    self.assertLessEqual(node.end_lineno - node.lineno + 1, 40, (path, node.name))
                    self.assertEqual(node.decorator_list, [], (path, node.name))

    def test_imports_name_the_defining_file(self):
        defined = {}
        for path, tree in package_trees():
            parts = [part for part in path.relative_to(PACKAGE.parent).with_suffix("").parts]
            names = [node.name for node in tree.body if isinstance(node, (ast.FunctionDef, ast.ClassDef))]
            names += [node.targets[0].id for node in tree.body if isinstance(node, ast.Assign)]
            defined[".".join(parts)] = names
        for path, tree in package_trees():
            for node in ast.walk(tree):
                if isinstance(node, ast.ImportFrom):
                    self.assertEqual(node.level, 0, path)
                    for alias in node.names:
                        due = LIBRARY.get(node.module) or defined[node.module]
                        self.assertIn(alias.name, due, path)

    def test_no_other_statements_builtins_and_values(self):
        for path, tree in package_trees():
            for node in ast.walk(tree):
                self.assertNotIsInstance(node, NO_NODES, (path, getattr(node, "lineno", 0)))
                if isinstance(node, ast.Constant):
                    self.assertNotIsInstance(node.value, (float, complex), (path, node.lineno))
                if isinstance(node, ast.Name) and isinstance(node.ctx, ast.Load) and node.id in PYTHONS_OWN:
                    self.assertIn(node.id, BUILTINS, (path, node.lineno))
                if isinstance(node, (ast.Name, ast.arg)) and not isinstance(getattr(node, "ctx", None), ast.Load):
                    name = node.id if isinstance(node, ast.Name) else node.arg
                    self.assertNotIn(name, PYTHONS_OWN, (path, node.lineno))

    def test_sums_and_their_kin_take_lists(self):
        for path, tree in package_trees():
            for node in ast.walk(tree):
                if isinstance(node, ast.Call) and isinstance(node.func, ast.Name):
                    if node.func.id in ("any", "all", "min", "max", "sum", "sorted"):
                        for argument in node.args:
                            self.assertNotIsInstance(argument, ast.GeneratorExp, (path, node.lineno))

    def test_no_local_name_is_that_of_an_import_or_a_class(self):
        for path, tree in package_trees():
            barred = {alias.name for node in tree.body if isinstance(node, ast.ImportFrom) for alias in node.names}
            barred |= {node.name for node in tree.body if isinstance(node, ast.ClassDef)}
            for node in ast.walk(tree):
                if isinstance(node, ast.FunctionDef):
                    names = {argument.arg for argument in node.args.args}
                    names |= {
                        name.id for name in ast.walk(node)
                        if isinstance(name, ast.Name) and isinstance(name.ctx, ast.Store)
                    }
                    self.assertEqual(names & barred, set(), (path, node.name))

    def test_methods_are_own_or_listed(self):
        own = {
            method.name for _, tree in package_trees() for node in tree.body if isinstance(node, ast.ClassDef)
            for method in node.body if isinstance(method, ast.FunctionDef)
        }
        for path, tree in package_trees():
            for node in ast.walk(tree):
                if isinstance(node, ast.Call) and isinstance(node.func, ast.Attribute):
                    self.assertIn(node.func.attr, own | METHODS, (path, node.lineno))

    def test_no_two_files_import_from_each_other(self):
        imported = {
            path.stem: {node.module.split(".")[1] for node in tree.body
                        if isinstance(node, ast.ImportFrom) and node.module.startswith("gridknot.")}
            for path, tree in package_trees()
        }
        while imported:
            free = [file for file, others in imported.items() if not others & set(imported)]
            self.assertTrue(free, sorted(imported))
            imported = {file: others for file, others in imported.items() if file not in free}

    def test_words_that_are_barred(self):
        barred = re.compile(r"\b(type|typing|enum|Enum|Flag|namedtuple|open|input|law|register|elements|mro)\b")
        for path, tree in package_trees():
            for node in ast.walk(tree):
                for field in ("id", "attr", "arg", "name"):
                    word = getattr(node, field, None)
                    if isinstance(word, str):
                        self.assertIsNone(barred.search(word), (path, word))
                        self.assertFalse(word.startswith("__") and not word.endswith("__"), (path, word))


if __name__ == "__main__":
    unittest.main()
