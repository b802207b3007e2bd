"""What is called: methods where they stand, and in operators nothing that changes what it is passed."""

import ast
import builtins
import unittest

from test_rules import METHODS, sources

CHANGING = {"append", "clear", "extend", "insert", "pop", "remove", "reverse", "setdefault", "sort",
            "update", "heappush", "heappop", "heapify", "heapreplace", "heappushpop", "add", "discard"}
NO_OPERATORS = {"__init__", "__enter__", "__exit__"}


def all_definitions():
    """The functions, the names of the classes, and for each name of a method all methods with it."""
    own, classes, methods = {}, set(), {}
    for path, _, tree in sources():
        for node in tree.body:
            if isinstance(node, ast.FunctionDef):
                own.setdefault(node.name, []).append((path, node))
            if isinstance(node, ast.ClassDef):
                classes.add(node.name)
                for item in node.body:
                    if isinstance(item, ast.FunctionDef):
                        methods.setdefault(item.name, []).append((path, node.name, item))
    return own, classes, methods


def run_by_operators():
    """All functions that operators run; a method is known by its name alone."""
    own, classes, methods = all_definitions()
    waiting = [(path, node) for name in methods if name.startswith("__") and name not in NO_OPERATORS
               for path, _, node in methods[name]]
    found = {}
    while waiting:
        path, function = waiting.pop()
        if (path, function.lineno) in found:
            continue
        found[path, function.lineno] = function
        for call in calls_in(function):
            if isinstance(call.func, ast.Attribute):
                waiting += [(path2, node) for path2, _, node in methods.get(call.func.attr, [])]
            elif call.func.id in classes:
                waiting += [(path2, node) for path2, name, node in methods.get("__init__", [])
                            if name == call.func.id]
            else:
                waiting += own.get(call.func.id, [])
    return found


def calls_in(function):
    return [node for node in ast.walk(function) if isinstance(node, ast.Call)]


def is_new(value):
    """Whether an expression gives a list, dict or set that nothing else has."""
    if isinstance(value, ast.Call):
        return isinstance(value.func, ast.Name) and value.func.id in ("list", "dict", "set", "sorted")
    return isinstance(value, (ast.List, ast.Dict, ast.ListComp, ast.DictComp))


def created_names(function):
    """The local variables that are only ever assigned something new."""
    created, others = set(), {argument.arg for argument in function.args.args}
    for node in ast.walk(function):
        if isinstance(node, ast.Assign) and isinstance(node.targets[0], ast.Name) and is_new(node.value):
            created.add(node.targets[0].id)
        elif isinstance(node, (ast.Assign, ast.For, ast.comprehension)):
            targets = node.targets if isinstance(node, ast.Assign) else [node.target]
            others |= {name.id for target in targets for name in ast.walk(target)
                       if isinstance(name, ast.Name) and isinstance(name.ctx, ast.Store)}
    return created - others


class Calls(unittest.TestCase):

    def test_methods_are_called_where_they_stand(self):
        _, _, methods = all_definitions()
        for path, _, tree in sources():
            called = {id(node.func) for node in ast.walk(tree) if isinstance(node, ast.Call)}
            for node in ast.walk(tree):
                if isinstance(node, ast.Attribute) and id(node) not in called:
                    self.assertNotIn(node.attr, METHODS | set(methods), (path, node.lineno))

    def test_functions_are_called_by_a_name_or_off_an_object(self):
        for path, _, tree in sources():
            for node in ast.walk(tree):
                if isinstance(node, ast.Call):
                    self.assertIsInstance(node.func, (ast.Name, ast.Attribute), (path, node.lineno))


class Operators(unittest.TestCase):

    def test_operators_run_the_functions_that_they_need(self):
        names = {function.name for function in run_by_operators().values()}
        self.assertTrue({"__add__", "__mul__", "__contains__", "__eq__", "product_terms", "left_over",
                         "terms_of_product"} <= names)
        self.assertNotIn("get", names)

    def test_operators_call_nothing_that_they_hold(self):
        own, classes, methods = all_definitions()
        for (path, line), function in run_by_operators().items():
            for call in calls_in(function):
                if isinstance(call.func, ast.Attribute):
                    self.assertIn(call.func.attr, METHODS | set(methods), (path, line))
                else:
                    self.assertTrue(call.func.id in own or call.func.id in classes
                                    or hasattr(builtins, call.func.id) or call.func.id == "gcd",
                                    (path, line, call.func.id))

    def test_operators_change_only_what_they_created(self):
        for (path, line), function in run_by_operators().items():
            created = created_names(function)
            for node in ast.walk(function):
                self.assertNotIsInstance(node, (ast.Delete, ast.Nonlocal), (path, line))
                if isinstance(node, ast.Attribute) and isinstance(node.ctx, ast.Store):
                    self.assertEqual((function.name, node.value.id), ("__init__", "self"), (path, line))
                if isinstance(node, ast.Subscript) and isinstance(node.ctx, ast.Store):
                    self.assertIn(ast.unparse(node.value), created, (path, line))
                if isinstance(node, ast.Call) and isinstance(node.func, ast.Attribute):
                    if node.func.attr in CHANGING:
                        self.assertIn(ast.unparse(node.func.value), created, (path, line))
                elif isinstance(node, ast.Call) and node.func.id in CHANGING:
                    self.assertIn(ast.unparse(node.args[0]), created, (path, line))


if __name__ == "__main__":
    unittest.main()
