"""The rules of the language that can be counted or looked up, for each file of the package."""

import ast
import builtins
import re
import unittest
from pathlib import Path

FOLDER = Path(__file__).resolve().parent.parent / "twicemany"
FILES = sorted(path for path in FOLDER.iterdir() if path.name != "__pycache__")
LIBRARY = {
    "heapq": {"heapify", "heappop", "heappush", "heappushpop", "heapreplace"},
    "math": {"comb", "factorial", "gcd", "isqrt", "lcm", "perm"},
    "itertools": {"accumulate", "chain", "combinations", "islice", "pairwise", "permutations", "product",
                  "zip_longest"},
    "collections": {"defaultdict"},
}
BUILTINS = set("""len range enumerate zip min max sum abs sorted reversed int str bool list tuple dict set isinstance
    ord repr any all divmod map iter next Exception ValueError TypeError KeyError IndexError LookupError
    ZeroDivisionError StopIteration NotImplemented""".split())
BARRED = ("type", "typing", "enum", "Enum", "Flag", "Generic", "Protocol", "ABC", "namedtuple", "abstractmethod",
          "dataclass", "overload", "contextmanager", "register", "mro", "elements", "open", "input", "law")
STATEMENTS = (ast.FunctionDef, ast.ClassDef, ast.ImportFrom, ast.Assign, ast.Expr)


def tree_of(path):
    return ast.parse(path.read_text(encoding="utf-8"))


def bound_in(tree):
    """All names that a file binds anywhere."""
    found = set()
    for node in ast.walk(tree):
        if isinstance(node, ast.Name) and isinstance(node.ctx, ast.Store):
            found.add(node.id)
        elif isinstance(node, ast.arg):
            found.add(node.arg)
        elif isinstance(node, (ast.FunctionDef, ast.ClassDef)):
            found.add(node.name)
        elif isinstance(node, ast.alias) or isinstance(node, ast.ExceptHandler) and node.name:
            found.add(node.name)
    return found


class Language(unittest.TestCase):
    def test_only_plain_files(self):
        for path in FILES:
            self.assertTrue(re.fullmatch(r"[a-z][a-z0-9_]*\.py|__init__\.py", path.name), path)

    def test_sizes_and_characters(self):
        for path in FILES:
            text = path.read_text(encoding="utf-8")
            self.assertTrue(all(" " <= sign <= "~" or sign == "\n" for sign in text), path)
            rows = text.split("\n")
            self.assertTrue(len(rows) <= 400 and max(map(len, rows)) <= 120, path)
            for node in ast.walk(ast.parse(text)):
                if isinstance(node, ast.FunctionDef):
                    self.assertTrue(node.end_lineno - node.lineno < 40, (path, node.name))
                elif isinstance(node, ast.Constant) and isinstance(node.value, str):
                    self.assertNotIn("%", node.value, path)

    def test_imports(self):
        for path in FILES:
            for node in ast.walk(tree_of(path)):
                self.assertNotIsInstance(node, (ast.Import, ast.Global, ast.AsyncFunctionDef), path)
                if not isinstance(node, ast.ImportFrom):
                    continue
                self.assertEqual(node.level, 0)
                self.assertTrue(all(alias.asname is None for alias in node.names))
                names = {alias.name for alias in node.names}
                if node.module in LIBRARY:
                    self.assertTrue(names <= LIBRARY[node.module], path)
                    continue
                home = FOLDER / (node.module.removeprefix("twicemany.") + ".py")
                defined = {part.name for part in tree_of(home).body
                           if isinstance(part, (ast.FunctionDef, ast.ClassDef))}
                defined |= {part.targets[0].id for part in tree_of(home).body if isinstance(part, ast.Assign)}
                self.assertTrue(names <= defined, (path, names - defined))

    def test_no_files_import_from_each_other(self):
        needs = {}
        for path in FILES:
            needs[path.stem] = {node.module.removeprefix("twicemany.") for node in ast.walk(tree_of(path))
                                if isinstance(node, ast.ImportFrom) and node.module not in LIBRARY}
        while needs:
            ready = [name for name, of in needs.items() if not of & set(needs)]
            self.assertTrue(ready, needs)
            needs = {name: of for name, of in needs.items() if name not in ready}

    def test_module_level(self):
        for path in FILES:
            names = []
            for part in tree_of(path).body:
                self.assertIsInstance(part, STATEMENTS, path)
                if isinstance(part, (ast.FunctionDef, ast.ClassDef)):
                    self.assertEqual(part.decorator_list, [])
                    names.append(part.name)
                elif isinstance(part, ast.Assign):
                    names.append(part.targets[0].id)
                elif isinstance(part, ast.Expr):
                    self.assertIsInstance(part.value.value, str)
                else:
                    names.extend(alias.name for alias in part.names)
            self.assertEqual(len(names), len(set(names)), path)

    def test_builtins_and_names(self):
        for path in FILES:
            tree = tree_of(path)
            bound = bound_in(tree)
            self.assertEqual(bound & set(dir(builtins)), set())
            self.assertEqual(bound & set(BARRED), set())
            used = {node.id for node in ast.walk(tree) if isinstance(node, ast.Name)}
            self.assertTrue(used <= bound | BUILTINS, (path, used - bound - BUILTINS))
            self.assertTrue(all(name == "_" or re.fullmatch(r"_?[A-Za-z][A-Za-z0-9_]*", name) or name == "__init__"
                                for name in bound), path)
            read = [node for node in ast.walk(tree) if isinstance(node, ast.Name) and node.id == "_"]
            self.assertTrue(all(isinstance(node.ctx, ast.Store) for node in read), path)

    def test_no_local_name_is_that_of_an_import_or_a_function(self):
        for path in FILES:
            tree = tree_of(path)
            outer = {alias.name for part in tree.body if isinstance(part, ast.ImportFrom) for alias in part.names}
            outer |= {part.name for part in tree.body if isinstance(part, (ast.FunctionDef, ast.ClassDef))}
            inner = {node.id for node in ast.walk(tree) if isinstance(node, ast.Name)
                     and isinstance(node.ctx, ast.Store)}
            inner |= {node.arg for node in ast.walk(tree) if isinstance(node, ast.arg)}
            self.assertEqual(outer & inner, set(), path)

    def test_no_floats_and_no_division(self):
        for path in FILES:
            for node in ast.walk(tree_of(path)):
                self.assertNotIsInstance(node, ast.Div, path)
                self.assertFalse(isinstance(node, ast.Constant) and isinstance(node.value, float), path)


if __name__ == "__main__":
    unittest.main()
