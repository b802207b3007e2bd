"""The rules of the language that a short look at the files of the package can tell."""

import ast
import builtins
import os
import unittest

TOP = os.path.dirname(os.path.dirname(os.path.abspath(__file__)))
PACKAGE = os.path.join(TOP, "restcounts")
LIBRARY = {
    "heapq": {"heappush", "heappop", "heapify", "heapreplace", "heappushpop"},
    "math": {"gcd", "lcm", "isqrt", "comb", "perm", "factorial"},
    "itertools": {"product", "combinations", "permutations", "chain", "accumulate", "pairwise",
                  "islice", "zip_longest"},
    "collections": {"defaultdict"},
    "__future__": {"annotations"},
}
ALLOWED = set((
    "len range enumerate zip min max sum abs sorted reversed int str bool bytes list tuple dict set "
    "frozenset isinstance ord repr any all divmod pow getattr hasattr setattr iter next map super "
    "property staticmethod classmethod object Exception ValueError TypeError KeyError IndexError "
    "LookupError ZeroDivisionError ArithmeticError OverflowError RuntimeError NotImplementedError "
    "AttributeError StopIteration NotImplemented").split())
PROMISED = set((
    "digits number_of kernel multiples powers_of powers_text is_tree count_text count_of walk_values "
    "walk_rests is_steady tables_of rest_at plus times scaled along_first summed folded jumped reached "
    "blind behind least_tables orders fewest alike same_tables is_paper first_apart relations made_of "
    "rule lucas lasting zero_classes values_lot enough end_relations ends_for alike_ends turned "
    "symmetric deciders decides order_free settles residual_relations likenesses least_machine machine_of "
    "paired first_unlike mapped comes comes_again last along_powers along_words run_of how_many "
    "nth shares period_of breaks_period as_many recurrence depth_machine always_divides least_not "
    "least_at decide truth_machine solutions witness").split())
FORBIDDEN = (ast.Global, ast.AsyncFunctionDef, ast.Await, ast.Div)


def files():
    for folder, _, names in os.walk(PACKAGE):
        if os.path.basename(folder) != "__pycache__":
            for name in sorted(names):
                yield os.path.join(folder, name)


def sources():
    for path in files():
        with open(path, encoding="utf-8") as file:
            text = file.read()
        yield os.path.relpath(path, TOP), text, ast.parse(text)


class Rules(unittest.TestCase):

    def test_only_python_files_with_plain_names(self):
        for path in files():
            self.assertRegex(os.path.basename(path), r"^[a-z0-9_]+\.py$")

    def test_sizes_and_characters(self):
        for path, text, tree in sources():
            lines = text.split("\n")
            self.assertLessEqual(len(lines), 400, path)
            for line in lines:
                self.assertLessEqual(len(line), 120, path)
            self.assertTrue(all(c == "\n" or " " <= c <= "~" for c in text), path)
            for node in ast.walk(tree):
                if isinstance(node, ast.FunctionDef):
                    self.assertLessEqual(node.end_lineno - node.lineno + 1, 40, (path, node.name))

    def test_imports(self):
        for path, _, tree in sources():
            for node in ast.walk(tree):
                self.assertNotIsInstance(node, ast.Import, path)
                if isinstance(node, ast.ImportFrom) and node.module.split(".")[0] != "restcounts":
                    self.assertTrue({name.name for name in node.names} <= LIBRARY[node.module], path)

    def test_each_name_is_imported_from_the_file_that_defines_it(self):
        defined = {}
        for path, _, tree in sources():
            names = [node.name for node in tree.body if hasattr(node, "name")]
            names += [target.id for node in tree.body if isinstance(node, ast.Assign)
                      for target in node.targets]
            defined[path[:-len(".py")].replace(os.sep, ".")] = names
        for path, _, tree in sources():
            for node in ast.walk(tree):
                if isinstance(node, ast.ImportFrom) and node.module in defined:
                    for name in node.names:
                        self.assertIn(name.name, defined[node.module], path)

    def test_builtins_and_statements(self):
        for path, _, tree in sources():
            for node in ast.walk(tree):
                self.assertNotIsInstance(node, FORBIDDEN, path)
                if isinstance(node, ast.Name) and hasattr(builtins, node.id):
                    self.assertIn(node.id, ALLOWED, path)
                    self.assertIsInstance(node.ctx, ast.Load, (path, node.id))
                if isinstance(node, ast.Constant):
                    self.assertNotIsInstance(node.value, (float, complex), path)
                    if isinstance(node.value, str):
                        self.assertNotIn("%", node.value, path)

    def test_no_generator_expressions_beside_eq(self):
        # A class with an __eq__ is in the package, so all, any, sum and the like take lists.
        for path, _, tree in sources():
            for node in ast.walk(tree):
                self.assertNotIsInstance(node, ast.GeneratorExp, path)


METHODS = set((
    "append clear copy count endswith extend find get index insert isalnum isalpha isdigit islower "
    "isspace isupper items join keys ljust lower lstrip partition pop remove replace reverse rfind "
    "rjust rpartition rsplit rstrip setdefault split splitlines startswith strip update upper values "
    "zfill bit_length").split())
PASSING = {"range", "zip", "enumerate", "reversed"}
VIEWS = {"items", "keys", "values"}
TAKERS = {"list", "tuple", "dict", "sorted", "sum", "any", "all", "enumerate", "zip", "min", "max"}


def own_names(tree):
    """The names of functions and classes of a file, and the names that it imports."""
    defined = {node.name for node in tree.body if hasattr(node, "name")}
    imported = {name.name for node in tree.body if isinstance(node, ast.ImportFrom)
                for name in node.names}
    return defined, imported


def bound_names(function):
    """The names of parameters and local variables of a function."""
    found = {argument.arg for argument in function.args.args}
    for node in ast.walk(function):
        if isinstance(node, ast.Name) and isinstance(node.ctx, ast.Store):
            found.add(node.id)
    return found


def functions(tree):
    for node in ast.walk(tree):
        if isinstance(node, ast.FunctionDef):
            yield node


def is_passing(node):
    """Whether a call gives something that is only iterated on the spot."""
    if not isinstance(node, ast.Call):
        return False
    if isinstance(node.func, ast.Name):
        return node.func.id in PASSING
    return isinstance(node.func, ast.Attribute) and node.func.attr in VIEWS and not node.args


def allowed_places(tree):
    """The nodes where something may stand that is iterated on the spot."""
    found = []
    for node in ast.walk(tree):
        if isinstance(node, (ast.For, ast.comprehension)):
            found.append(node.iter)
        elif isinstance(node, ast.Call) and isinstance(node.func, ast.Name) and node.args:
            if node.func.id in TAKERS:
                found.append(node.args[0])
            if node.func.id == "reversed" and ast.unparse(node.args[0]).startswith("range("):
                found.append(node.args[0])
        elif isinstance(node, ast.Compare) and ast.unparse(node.comparators[0]).startswith("range("):
            found.append(node.comparators[0])
        elif isinstance(node, ast.Assign) and ast.unparse(node.value).startswith("range("):
            found.append(node.value)
    return found


class Names(unittest.TestCase):

    def test_local_names_are_no_imports_classes_or_builtins(self):
        for path, _, tree in sources():
            _, imported = own_names(tree)
            classes = {node.name for node in tree.body if isinstance(node, ast.ClassDef)}
            for function in functions(tree):
                names = bound_names(function)
                self.assertEqual(names & (imported | classes), set(), (path, function.name))
                builtin = {name for name in names if hasattr(builtins, name)}
                self.assertEqual(builtin, set(), (path, function.name))

    def test_methods_are_known_ones(self):
        own = {function.name for _, _, tree in sources() for function in functions(tree)}
        for path, _, tree in sources():
            for node in ast.walk(tree):
                if isinstance(node, ast.Call) and isinstance(node.func, ast.Attribute):
                    self.assertIn(node.func.attr, METHODS | own, path)

    def test_methods_and_attributes_have_names_of_their_own(self):
        methods, attributes = set(), set()
        for _, _, tree in sources():
            for node in ast.walk(tree):
                if isinstance(node, ast.ClassDef):
                    methods |= {item.name for item in node.body if isinstance(item, ast.FunctionDef)}
                if isinstance(node, ast.Attribute) and isinstance(node.ctx, ast.Store):
                    attributes.add(node.attr)
        self.assertEqual(methods & attributes, set())
        for _, _, tree in sources():
            for node in ast.walk(tree):
                if isinstance(node, ast.Attribute):
                    self.assertIn(node.attr, methods | attributes | METHODS)

    def test_imports_are_used_and_tell_no_cycle(self):
        needed = {}
        for path, text, tree in sources():
            _, imported = own_names(tree)
            read = {node.id for node in ast.walk(tree) if isinstance(node, ast.Name)}
            self.assertEqual(imported - read, set(), path)
            needed[path[:-len(".py")].replace(os.sep, ".")] = {
                node.module for node in tree.body if isinstance(node, ast.ImportFrom)}
        while needed:
            free = [name for name in needed if not needed[name] & set(needed)]
            self.assertTrue(free, "a cycle of imports")
            for name in free:
                del needed[name]

    def test_all_functions_are_used_or_promised(self):
        read, defined = set(), []
        for path, _, tree in sources():
            read |= {node.id for node in ast.walk(tree) if isinstance(node, ast.Name)}
            defined += [node.name for node in tree.body if isinstance(node, ast.FunctionDef)]
        self.assertEqual(set(defined) - read - PROMISED, set())


class Values(unittest.TestCase):

    def test_no_sets_no_lambdas_no_changing_assignments(self):
        for path, _, tree in sources():
            for node in ast.walk(tree):
                self.assertNotIsInstance(node, (ast.Set, ast.SetComp, ast.Lambda, ast.AugAssign), path)

    def test_what_passes_is_iterated_on_the_spot(self):
        for path, _, tree in sources():
            allowed = [id(node) for node in allowed_places(tree)]
            for node in ast.walk(tree):
                if is_passing(node):
                    self.assertIn(id(node), allowed, (path, node.lineno, ast.unparse(node)))

    def test_exponents_are_literals(self):
        for path, _, tree in sources():
            for node in ast.walk(tree):
                if isinstance(node, ast.BinOp) and isinstance(node.op, ast.Pow):
                    self.assertIsInstance(node.right, ast.Constant, (path, node.lineno))

    def test_own_errors_alone_are_caught(self):
        for path, _, tree in sources():
            for node in ast.walk(tree):
                if isinstance(node, ast.ExceptHandler):
                    self.assertEqual(ast.unparse(node.type), "BadText", path)


if __name__ == "__main__":
    unittest.main()
