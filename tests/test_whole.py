"""[1] to [85] over the whole program: its names, its classes, and one count told in all ways."""

import ast
import importlib
import inspect
import itertools
import os
import unittest

from plain_counts import MODULI
from restcounts.counts import Count
from restcounts.depths import always_divides, depth_machine, least_at, least_not
from restcounts.desk import Desk
from restcounts.errors import CountError, TooMany
from restcounts.likeness import Alike, alike
from restcounts.lots import Lot, kernel, multiples
from restcounts.machines import Machine, comes, first_unlike, least_machine, machine_of, mapped, paired
from restcounts.moduli import number_of, prime_power
from restcounts.numbers import how_many, nth
from restcounts.powers import Powers
from restcounts.relating import lucas, relations, rule, zero_classes
from restcounts.residuals import behind, fewest, least_tables, orders
from restcounts.runs import along_powers, along_words, run_of
from restcounts.settling import decides, residual_relations, settles
from restcounts.statements import Statement, decide, solutions, truth_machine, witness
from restcounts.tables import Tables, rest_at, tables_of

PLACE = os.path.dirname(os.path.dirname(os.path.abspath(__file__)))

# Each file of the interface with its functions and their arguments.
FUNCTIONS = {
    "moduli": "prime_power(m) digits(n, p) number_of(row, p)",
    "lots": "kernel(m, width, rows) multiples(m, width, rows, row)",
    "powers": "powers_of(text) powers_text(powers)",
    "counts": "is_tree(value) count_text(tree) count_of(tree) walk_values(steps, ends, many)"
              " walk_rests(steps, ends, many, m)",
    "tables": "is_steady(tables) tables_of(count, m) rest_at(count, n, m) plus(one, other) times(one, other)"
              " scaled(one, number) along_first(one, digit) summed(one) folded(one, other) jumped(one, c, d)",
    "residuals": "reached(tables) blind(tables) behind(tables, places, number) least_tables(tables) orders(tables)"
                 " fewest(count, m)",
    "likeness": "alike(one, other, m) same_tables(one, other) is_paper(one, other, rows) first_apart(one, other, low)",
    "relating": "relations(counts, m) made_of(count, counts, m) rule(count, m) lucas(count, m) lasting(count, m)"
                " zero_classes(count, m, j) values_lot(counts, m) enough(counts, m)",
    "ends": "end_relations(steps, low, high, m) ends_for(steps, low, high, count, m)"
            " alike_ends(one, other, low, high, m) turned(tables) symmetric(tables)",
    "settling": "deciders(count, m) decides(count, m, numbers) order_free(count, m) settles(count, m)"
                " residual_relations(count, m, j) likenesses(count, m, most)",
    "machines": "least_machine(machine) machine_of(count, m) paired(machine, other) first_unlike(machine, other)"
                " mapped(machine, numbers) comes(machine) comes_again(machine, value) last(machine, value)",
    "runs": "along_powers(count, m, c, d) along_words(count, m, low, middle, high) run_of(count, m, digit)",
    "numbers": "how_many(machine, value, below) nth(machine, value, number) shares(machine)"
               " period_of(machine, most) breaks_period(machine, length, start)"
               " as_many(machine, value, other, other_value) recurrence(machine, value)",
    "depths": "depth_machine(count, m) always_divides(count, m) least_not(count, m, j) least_at(count, m, j)",
    "statements": "decide(statement, machines) truth_machine(statement, machines)"
                  " solutions(statement, machines, below) witness(statement, machines)",
}

# Each class with what it is made of and with its own methods.
CLASSES = {
    "errors": {
        "CountError()": "", "BadText(column)": "", "BadLine(line, column)": "", "BadNumber(what, number)": "",
        "BadRow(row)": "", "BadName(name)": "", "Unlike(what)": "", "TooMany(what, limit)": "",
        "TooLarge(what, number, limit)": "", "NoName(name)": "", "TakenName(name)": "",
        "NotKept(promise, witness)": "", "NothingToUndo()": "", "NothingToRedo()": ""},
    "lots": {"Lot(m, width, rows=())": "__eq__(other) __contains__(row) joined(other) common(other)"},
    "powers": {"Powers(terms)": "__add__(other) __radd__(other) __sub__(other) __rsub__(other) __mul__(other)"
                                " __rmul__(other) __neg__() __eq__(other) raised(n) constant() part_at(exponents)"
                                " moved(exponents) parts(p) modulo(m)"},
    "counts": {"Count(text)": "value(n) first_rests(many, m)"},
    "tables": {"Tables(m, first, moves, ends)": "at(n) along(word)"},
    "likeness": {"Alike(one, other, rows)": "", "Apart(n, rests)": ""},
    "settling": {"Round(start, length, tables)": ""},
    "machines": {"Machine(p, moves, worths)": "__eq__(other) at(n)"},
    "runs": {"Along(start, period, rests)": "", "Run(start, period)": ""},
    "numbers": {"Shares(period, limits)": "", "Period(start, length)": ""},
    "statements": {"Statement(text)": ""},
    "desk": {"Desk(m, text='')": "put(text) define(name, expression) drop(name) rename(name, new) keep(promise)"
                                 " release(promise) attempt(action) trial(action) undo() redo() lines() names()"
                                 " promises() get(name) kept(promise) broken() ask(question) __enter__()"
                                 " __exit__(kind, value, trace)"},
}


def signatures(text):
    """The name and the arguments of each function in a text of calls."""
    for call in text.replace(") ", ")|").split("|"):
        if call:
            name, arguments = call[:-1].split("(", 1)
            yield name, [part.strip() for part in arguments.split(", ") if part]


def arguments_of(called):
    return [str(one) for name, one in inspect.signature(called).parameters.items() if name != "self"]


class Interface(unittest.TestCase):

    def test_functions(self):
        for file, text in FUNCTIONS.items():
            module = importlib.import_module(f"restcounts.{file}")
            for name, arguments in signatures(text):
                function = getattr(module, name)
                self.assertTrue(inspect.isfunction(function), name)
                self.assertEqual(function.__module__, module.__name__, name)
                self.assertEqual(arguments_of(function), arguments, name)

    def test_classes(self):
        for file, classes in CLASSES.items():
            module = importlib.import_module(f"restcounts.{file}")
            for made, methods in classes.items():
                (name, arguments), = signatures(made)
                told = getattr(module, name)
                self.assertTrue(inspect.isclass(told), name)
                self.assertEqual(told.__module__, module.__name__, name)
                if arguments:
                    self.assertEqual(arguments_of(told), arguments, name)
                for method, arguments in signatures(methods):
                    self.assertIn(method, vars(told), (name, method))
                    if not method.startswith("__"):
                        self.assertEqual(arguments_of(vars(told)[method]), arguments, (name, method))

    def test_each_is_defined_in_its_file(self):
        for file in set(FUNCTIONS) | set(CLASSES):
            with open(os.path.join(PLACE, "restcounts", file + ".py"), encoding="utf-8") as source:
                defined = [node.name for node in ast.parse(source.read()).body if hasattr(node, "name")]
            wanted = [name for name, _ in signatures(FUNCTIONS.get(file, ""))]
            wanted += [name for made in CLASSES.get(file, {}) for name, _ in signatures(made)]
            self.assertEqual(set(wanted) - set(defined), set(), file)

    def test_attributes(self):
        count = Count("walk[x + x^-1]")
        tables = tables_of(count, 4)
        machine = Machine(2, [(0, 1), (1, 0)], (0, 1))
        for value, names in (
                (Lot(4, 2, [(2, 1)]), "m width rows size least"), (Powers([]), "terms reach"), (count, "text tree"),
                (tables, "m first moves ends size"), (alike(count, count, 2), "one other rows"),
                (alike(count, Count("1"), 3), "n rests"), (settles(count, 4), "start length tables"),
                (machine, "p moves worths size"), (along_powers(count, 4, 1, 0), "start period rests"),
                (run_of(count, 4, 0), "start period"), (Statement("x = y"), "text letters")):
            for name in names.split():
                self.assertIn(name, vars(value), type(value))

    def test_classes_of_results_are_made_of_their_fields(self):
        for file, name in (("likeness", "Alike"), ("likeness", "Apart"), ("settling", "Round"), ("runs", "Along"),
                           ("runs", "Run"), ("numbers", "Shares"), ("numbers", "Period")):
            told = getattr(importlib.import_module(f"restcounts.{file}"), name)
            fields = [argument for made in CLASSES[file] for told_name, arguments in signatures(made)
                      for argument in arguments if told_name == name]
            values = {"n": 1, "rests": (0, 1), "start": 2, "period": 3, "length": 4, "limits": (((0, (1, 1)),),),
                      "rows": ((1, 2),), "tables": ()}
            made = told(*[values.get(field, None) for field in fields])
            for field in fields:
                self.assertEqual(getattr(made, field), values.get(field, None), (name, field))


class Kept(unittest.TestCase):

    def test_lists_are_copied(self):
        rows = [[2, 1]]
        lot = Lot(4, 2, rows)
        rows[0][0] = 0
        self.assertEqual(lot.rows, ((2, 1), (0, 2)))
        terms = [[[1, 0, 0], 2]]
        powers = Powers(terms)
        terms[0][0][0] = 5
        self.assertEqual(powers.terms, (((1, 0, 0), 2),))
        first, moves, ends = [1, 0], [[[1, 0], [0, 1]], [[1, 1], [0, 1]]], [0, 1]
        tables = Tables(2, first, moves, ends)
        moves[1][0][1] = first[0] = ends[1] = 0
        self.assertEqual((tables.first, tables.moves[1], tables.ends), ((1, 0), ((1, 1), (0, 1)), (0, 1)))
        moves, worths = [[0, 1], [1, 0]], [0, 1]
        machine = Machine(2, moves, worths)
        moves[0][1] = worths[1] = 0
        self.assertEqual((machine.moves, machine.worths), (((0, 1), (1, 0)), (0, 1)))

    def test_nothing_that_is_passed_is_changed(self):
        count = Count("walk[x + 1 + x^-1]")
        rows, row, word, numbers = [[2, 1], [0, 3]], [2, 3], [1, 0, 1], {0: 5, 1: 6, 2: 7, 9: 9}
        machine = machine_of(count, 3)
        machines = {"A": machine}
        counts = [count, Count("1")]
        before = repr((rows, row, word, numbers, counts, sorted(machines)))
        kernel(4, 2, rows)
        multiples(4, 2, rows, row)
        number_of(word, 3)
        tables_of(count, 3).along(word)
        relations(counts, 3)
        decides(count, 3, word)
        mapped(machine, numbers)
        along_words(count, 3, word, word, word)
        decide(Statement("for all x: A at x is 1"), machines)
        self.assertEqual(repr((rows, row, word, numbers, counts, sorted(machines))), before)


TEXTS = ("at[2, 0: walk[x + x^-1]]", "walk[x + 1 + x^-1]", "sum[walk[1 + x]] - 2", "walk[2*x + x^-1]",
         "fold[walk[x + x^-1], 1]", "3", "at[3, 1: walk[x + x^-1 + 1]] * 2", "step[sum[1]] + walk[1 - x; x^-2]")


class OneCount(unittest.TestCase):

    def look(self, text, m):
        p, k = prime_power(m)
        count = Count(text)
        tables = tables_of(count, m)
        desk = Desk(m, f"A = {text}\nB = A - {m} * A")
        many = 60
        rests = count.first_rests(many, m)
        points = list(range(many))
        far = [10 ** 60, 10 ** 60 - 1, p ** 70 + p ** 3, 3 ** 100]
        self.assertEqual(tuple(tables.at(n) for n in points), rests)
        told = [tables.at(n) for n in points + far]
        self.assertEqual([rest_at(count, n, m) for n in points + far], told)
        self.assertEqual([int(desk.ask(f"A at {n}")) for n in points + far], told)
        self.assertEqual([least_tables(tables).at(n) for n in points + far], told)
        self.assertEqual((str(fewest(count, m)), len(orders(tables))), (desk.ask("A rows"), fewest(count, m)))
        self.assertIsInstance(alike(count, desk.get("B"), m), Alike)
        self.assertEqual(desk.kept("A alike B"), (True, None))
        for i in range(p):
            self.assertEqual([behind(tables, 1, i).at(n) for n in range(20)],
                             [rest_at(count, p * n + i, m) for n in range(20)])
        self.depths(count, m, desk, told, points + far)
        try:
            machine = machine_of(count, m)
        except TooMany:
            with self.assertRaises(TooMany):
                desk.ask("A first 0")
            return False
        self.machines(machine, m, desk, told, points + far)
        if machine.size <= 12:
            self.statements(machine, m, desk, rests)
        return True

    def depths(self, count, m, desk, told, points):
        p, k = prime_power(m)
        try:
            machine = depth_machine(count, m)
        except TooMany:
            return
        depths = [max(j for j in range(k + 1) if rest % p ** j == 0) for rest in told]
        self.assertEqual([machine.at(n) for n in points], depths)
        low = min(value for value, _ in comes(machine))
        self.assertEqual(always_divides(count, m), low)
        for j in range(k + 1):
            self.assertEqual(least_at(count, m, j), dict(comes(machine)).get(j))
            least = min([n for value, n in comes(machine) if value < j], default=None)
            self.assertEqual(least_not(count, m, j), least)
            self.assertEqual(desk.kept(f"A divided by {j}"), (j <= low, least))

    def machines(self, machine, m, desk, told, points):
        p, k = prime_power(m)
        self.assertEqual([machine.at(n) for n in points], told)
        self.assertEqual(least_machine(machine), machine)
        found = dict(comes(machine))
        count = desk.get("A")
        for rest in range(m):
            least = found.get(rest)
            self.assertEqual(desk.ask(f"A first {rest}"), "never" if least is None else str(least))
            self.assertEqual(desk.kept(f"A never {rest}"), (least is None, least))
            self.assertEqual(nth(machine, rest, 1), least)
            self.assertEqual(desk.ask(f"A many {rest} below 60"), str(how_many(machine, rest, 60)))
            self.assertEqual(how_many(machine, rest, 60), told[:60].count(rest))
        # The depths are told by the rests.
        depths = {rest: max(j for j in range(k + 1) if rest % p ** j == 0) for rest in found}
        self.assertEqual(mapped(machine, depths), depth_machine(count, m))
        # How the count is multiplied by its digits, by machines, by statements' numbers and by lucas.
        unlike = lucas(count, m)
        self.assertEqual(desk.kept("A follows"), (unlike is None, unlike))
        values = [machine.at(n) for n in range(p)]
        if unlike is None:
            self.assertEqual(list(values), [values[0] * c % m if values[0] else 0 for c in values])
        else:
            n, d = divmod(unlike, p)
            self.assertNotEqual(machine.at(unlike), machine.at(n) * machine.at(d) % m)
        for j in (0, 1):
            zeros = [i for i in range(p ** j) if decide(
                Statement("for all x: Z at x is 0"), {"Z": machine_of(Count(f"at[{p ** j}, {i}: {count.text}]"), m)})
            ] if machine.size <= 12 else None
            if zeros is not None:
                self.assertEqual(zero_classes(count, m, j), tuple(zeros))
        self.assertIsNone(first_unlike(machine, machine_of(desk.get("B"), m)))
        both, pairs = paired(machine, machine)
        self.assertEqual([pair[0] for pair in pairs], sorted(found))
        self.assertEqual(both.size, machine.size)

    def statements(self, machine, m, desk, rests):
        p, _ = prime_power(m)
        machines = {"A": machine, "B": machine}
        for rest in sorted(set(rests))[:4]:
            told = truth_machine(Statement(f"A at x is {rest}"), machines)
            self.assertEqual([told.at(n) for n in range(60)], [int(value == rest) for value in rests])
            self.assertEqual(solutions(Statement(f"B at n is {rest}"), machines, 60),
                             tuple((n,) for n in range(60) if rests[n] == rest))
            least = nth(machine, rest, 1)
            self.assertEqual(witness(Statement(f"there is x: A at x is {rest}"), machines), (least,))
            self.assertEqual(desk.kept(f"always not A at n is {rest}"), (False, (least,)))
            self.assertEqual(desk.kept(f"always B at n is {rest} or not A at n is {rest}"), (True, None))
        # A statement about the residuals: some digit goes on as the count itself.
        for digit, c in enumerate(rule(desk.get("A"), m)):
            if c == 1 and p < 5:
                same = " and ".join(f"(not A at x is {rest} or A at {p}*x + {digit} is {rest})" for rest in set(rests))
                self.assertTrue(decide(Statement(f"for all x: {same}"), machines))
        self.assertTrue(residual_relations(desk.get("A"), m, 0).size in range(1, m + 1))

    def test_all_tell_the_same(self):
        small = 0
        for text, m in itertools.product(TEXTS, MODULI):
            with self.subTest(text, m=m):
                small += self.look(text, m)
        self.assertGreater(small, 40)

    def test_all_errors_are_errors_of_the_package(self):
        for called in (lambda: Count("x"), lambda: Desk(6), lambda: Statement(""), lambda: Machine(4, [], [])):
            with self.assertRaises(CountError) as caught:
                called()
            self.assertIsInstance(caught.exception, ValueError)
            self.assertEqual(type(caught.exception).__bases__, (CountError,))


if __name__ == "__main__":
    unittest.main()
