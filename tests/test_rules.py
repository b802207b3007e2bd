"""The rules of the language that a short look at the files of the package can tell."""

import ast
import builtins
import os
import unittest

TOP = os.path.dirname(os.path.dirname(os.path.abspath(__file__)))
PACKAGE = os.path.join(TOP, "restcounts")
LIBRARY = {
    "heapq": {"heappush", "heappop", "heapify", "heapreplace", "heappushpop"},
    "math": {"gcd", "lcm", "isqrt", "comb", "perm", "factorial"},
    "itertools": {"product", "combinations", "permutations", "chain", "accumulate", "pairwise",
                  "islice", "zip_longest"},
    "collections": {"defaultdict"},
    "__future__": {"annotations"},
}
ALLOWED = set((
    "len range enumerate zip min max sum abs sorted reversed int str bool bytes list tuple dict set "
    "frozenset isinstance ord repr any all divmod pow getattr hasattr setattr iter next map super "
    "property staticmethod classmethod object Exception ValueError TypeError KeyError IndexError "
    "LookupError ZeroDivisionError ArithmeticError OverflowError RuntimeError NotImplementedError "
    "AttributeError StopIteration NotImplemented").split())
FORBIDDEN = (ast.Global, ast.AsyncFunctionDef, ast.Await, ast.Div)


def files():
    for folder, _, names in os.walk(PACKAGE):
        if os.path.basename(folder) != "__pycache__":
            for name in sorted(names):
                yield os.path.join(folder, name)


def sources():
    for path in files():
        with open(path, encoding="utf-8") as file:
            text = file.read()
        yield os.path.relpath(path, TOP), text, ast.parse(text)


class Rules(unittest.TestCase):

    def test_only_python_files_with_plain_names(self):
        for path in files():
            self.assertRegex(os.path.basename(path), r"^[a-z0-9_]+\.py$")

    def test_sizes_and_characters(self):
        for path, text, tree in sources():
            lines = text.split("\n")
            self.assertLessEqual(len(lines), 400, path)
            for line in lines:
                self.assertLessEqual(len(line), 120, path)
            self.assertTrue(all(c == "\n" or " " <= c <= "~" for c in text), path)
            for node in ast.walk(tree):
                if isinstance(node, ast.FunctionDef):
                    self.assertLessEqual(node.end_lineno - node.lineno + 1, 40, (path, node.name))

    def test_imports(self):
        for path, _, tree in sources():
            for node in ast.walk(tree):
                self.assertNotIsInstance(node, ast.Import, path)
                if isinstance(node, ast.ImportFrom) and node.module.split(".")[0] != "restcounts":
                    self.assertTrue({name.name for name in node.names} <= LIBRARY[node.module], path)

    def test_each_name_is_imported_from_the_file_that_defines_it(self):
        defined = {}
        for path, _, tree in sources():
            names = [node.name for node in tree.body if hasattr(node, "name")]
            names += [target.id for node in tree.body if isinstance(node, ast.Assign)
                      for target in node.targets]
            defined[path[:-len(".py")].replace(os.sep, ".")] = names
        for path, _, tree in sources():
            for node in ast.walk(tree):
                if isinstance(node, ast.ImportFrom) and node.module in defined:
                    for name in node.names:
                        self.assertIn(name.name, defined[node.module], path)

    def test_builtins_and_statements(self):
        for path, _, tree in sources():
            for node in ast.walk(tree):
                self.assertNotIsInstance(node, FORBIDDEN, path)
                if isinstance(node, ast.Name) and hasattr(builtins, node.id):
                    self.assertIn(node.id, ALLOWED, path)
                    self.assertIsInstance(node.ctx, ast.Load, (path, node.id))
                if isinstance(node, ast.Constant):
                    self.assertNotIsInstance(node.value, (float, complex), path)
                    if isinstance(node.value, str):
                        self.assertNotIn("%", node.value, path)

    def test_no_generator_expressions_beside_eq(self):
        # A class with an __eq__ is in the package, so all, any, sum and the like take lists.
        for path, _, tree in sources():
            for node in ast.walk(tree):
                self.assertNotIsInstance(node, ast.GeneratorExp, path)


if __name__ == "__main__":
    unittest.main()
