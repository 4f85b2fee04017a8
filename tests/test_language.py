"""Some of the rules of ../shared/LANGUAGE.md that a look at the code can tell."""

import ast
import builtins
import re
import unittest
from pathlib import Path

PACKAGE = Path(__file__).resolve().parent.parent / "formalconcepts"

# L2: what may be imported from outside of the package.
LIBRARY = {
    "__future__": {"annotations"},
    "heapq": {"heappush", "heappop", "heapify", "heapreplace", "heappushpop"},
    "math": {"gcd", "lcm", "isqrt", "comb", "perm", "factorial"},
    "itertools": {
        "product", "combinations", "permutations", "chain", "accumulate", "pairwise", "islice", "zip_longest",
    },
    "collections": {"defaultdict", "deque"},
}

# L6 to L8 and L17: what does not stand in the code.
BARRED_NODES = (ast.AsyncFunctionDef, ast.AsyncFor, ast.AsyncWith, ast.Await, ast.Import, ast.Div)
BARRED_NAMES = {
    "register", "mro", "elements", "open", "input", "law", "eval", "exec", "globals", "locals", "vars", "dir",
    "chr", "filter", "round", "hash", "id", "print", "callable", "format", "slice", "bytearray", "memoryview",
}

# L8: the builtins that may be used.
BUILTINS = {
    "len", "range", "enumerate", "zip", "min", "max", "sum", "abs", "sorted", "reversed", "int", "str", "bool", "list",
    "tuple", "dict", "set", "isinstance", "ord", "repr", "any", "all", "divmod", "map", "iter", "next", "type", "super",
    "True", "False", "None", "ValueError",
}

# L25: the methods of builtin values that may be called.
METHODS = {
    "append", "clear", "copy", "count", "endswith", "extend", "find", "get", "index", "insert", "isalnum", "isalpha",
    "isdigit", "islower", "isspace", "isupper", "items", "join", "keys", "ljust", "lower", "lstrip", "partition", "pop",
    "remove", "replace", "reverse", "rfind", "rjust", "rpartition", "rsplit", "rstrip", "setdefault", "split",
    "splitlines", "startswith", "strip", "update", "upper", "values", "zfill", "bit_length",
}


def bound_names(tree):
    """Return the names that parameters and assignments of any kind bind."""
    found = {node.arg for node in ast.walk(tree) if isinstance(node, ast.arg)}
    return found | {node.id for node in ast.walk(tree) if isinstance(node, ast.Name) and isinstance(node.ctx, ast.Store)}


def sources():
    """Return the files of the package with their texts."""
    return [(path, path.read_bytes().decode("utf-8")) for path in sorted(PACKAGE.rglob("*.py"))]


class Language(unittest.TestCase):
    def test_the_folder_holds_only_python_files_with_plain_names(self):
        for path in PACKAGE.rglob("*"):
            if "__pycache__" in path.parts:
                continue
            self.assertTrue(path.is_dir() or re.fullmatch(r"[a-z0-9_]+\.py", path.name), path)

    def test_sizes_and_signs(self):
        for path, text in sources():
            lines = text.split("\n")
            self.assertLessEqual(len(lines) - 1, 399, path)
            self.assertTrue(all(len(line) <= 120 for line in lines), path)
            self.assertTrue(all(sign == "\n" or " " <= sign <= "~" for sign in text), path)

    def test_functions_are_small(self):
        for path, text in sources():
            for node in ast.walk(ast.parse(text)):
                if isinstance(node, ast.FunctionDef):
                    self.assertLessEqual(node.end_lineno - node.lineno + 1, 40, (path, node.name))

    def test_imports(self):
        for path, text in sources():
            for node in ast.walk(ast.parse(text)):
                if isinstance(node, ast.ImportFrom):
                    inside = node.module.startswith("formalconcepts.")
                    for name in node.names:
                        self.assertEqual(node.level, 0, path)
                        self.assertTrue(inside or name.name in LIBRARY[node.module], (path, name.name))

    def test_module_level(self):
        allowed = (ast.ImportFrom, ast.FunctionDef, ast.ClassDef, ast.Assign)
        for path, text in sources():
            body = ast.parse(text).body
            self.assertIsInstance(body[0], ast.Expr, path)
            for node in body[1:]:
                self.assertIsInstance(node, allowed, (path, node.lineno))

    def test_what_does_not_stand_in_the_code(self):
        for path, text in sources():
            for node in ast.walk(ast.parse(text)):
                self.assertNotIsInstance(node, BARRED_NODES, path)
                if isinstance(node, ast.Name):
                    self.assertNotIn(node.id, BARRED_NAMES, path)
                if isinstance(node, ast.Constant):
                    self.assertNotIsInstance(node.value, (float, complex), path)

    def test_names_have_one_meaning(self):
        for path, text in sources():
            tree = ast.parse(text)
            imported = {name.name for node in tree.body if isinstance(node, ast.ImportFrom) for name in node.names}
            classes = {node.name for node in tree.body if isinstance(node, ast.ClassDef)}
            functions = {node.name for node in tree.body if isinstance(node, ast.FunctionDef)}
            self.assertEqual(bound_names(tree) & (imported | classes | set(dir(builtins))), set(), path)
            self.assertEqual(functions & (imported | classes | set(dir(builtins))), set(), path)

    def test_builtins_and_methods(self):
        own = {
            node.name for _, text in sources() for kind in ast.parse(text).body if isinstance(kind, ast.ClassDef)
            for node in kind.body if isinstance(node, ast.FunctionDef)
        }
        for path, text in sources():
            for node in ast.walk(ast.parse(text)):
                if isinstance(node, ast.Name) and node.id in dir(builtins):
                    self.assertIn(node.id, BUILTINS, path)
                if isinstance(node, ast.Call) and isinstance(node.func, ast.Attribute):
                    self.assertIn(node.func.attr, METHODS | own, path)


if __name__ == "__main__":
    unittest.main()
