"""[75], [77], [78] what statements say, and the functions about them."""

import itertools
import random
import time
import unittest

from plain_counts import NO_NUMBERS
from plain_machines import random_machine
from restcounts.counts import Count
from restcounts.errors import BadName, BadNumber, NoName, TooMany, Unlike
from restcounts.machines import Machine, least_machine, machine_of
from restcounts.statements import Statement, decide, solutions, truth_machine, witness

ODD = Machine(2, [(1, 2), (1, 1), (2, 2)], (0, 0, 1))
# How many digits 1, modulo 2.
THUE = Machine(2, [(0, 1), (1, 0)], (0, 1))
# Whether n is a multiple of 3.
THIRD = Machine(3, [(1, 2, 2), (1, 1, 1), (2, 2, 2)], (1, 1, 0))


class Plain:
    """Statements by chance, as texts and as functions of the values of letters; all is bounded."""

    def __init__(self, chance, machines):
        self.chance = chance
        self.machines = machines
        self.parts = 0

    def term(self, letters):
        items, told = [], []
        for _ in range(self.chance.randrange(1, 3)):
            kind = self.chance.randrange(3)
            if kind == 0 or not letters:
                number = self.chance.choice((0, 1, 2, 5, 17))
                items.append(str(number))
                told.append((number, None))
            else:
                factor = self.chance.randrange(1, 4) if kind == 1 else 1
                letter = self.chance.choice(letters)
                items.append(letter if kind == 2 else f"{factor}*{letter}")
                told.append((factor, letter))
        return " + ".join(items), lambda values: sum(
            number * (1 if letter is None else values[letter]) for number, letter in told)

    def part(self, letters):
        kind = self.chance.randrange(3)
        text, value = self.term(letters)
        if kind == 2 and self.machines:
            name = self.chance.choice(sorted(self.machines))
            number = self.chance.randrange(3)
            machine = self.machines[name]
            return f"{name} at {text} is {number}", lambda values: machine.at(value(values)) == number
        text2, value2 = self.term(letters)
        if kind == 0:
            return f"{text} = {text2}", lambda values: value(values) == value2(values)
        return f"{text} < {text2}", lambda values: value(values) < value2(values)

    def whole(self, letters, deep):
        kind = self.chance.choice(("part", "and", "or", "not", "all", "some")) if deep else "part"
        if kind == "part":
            return self.part(letters)
        if kind in ("and", "or"):
            (one, value), (two, value2) = self.whole(letters, deep - 1), self.whole(letters, deep - 1)
            text = f"({one}) {kind} ({two})"
            if kind == "and":
                return text, lambda values: value(values) and value2(values)
            return text, lambda values: value(values) or value2(values)
        if kind == "not":
            one, value = self.whole(letters, deep - 1)
            return f"not ({one})", lambda values: not value(values)
        letter = self.chance.choice("xyz")
        bound = self.chance.randrange(1, 6)
        one, value = self.whole(sorted(set([letter, *letters])), deep - 1)
        if kind == "all":
            return (f"for all {letter}: not {letter} < {bound} or ({one})",
                    lambda values: all(value({**values, letter: n}) for n in range(bound)))
        return (f"there is {letter}: {letter} < {bound} and ({one})",
                lambda values: any(value({**values, letter: n}) for n in range(bound)))


def machines_by_chance(chance, p):
    return {name: random_machine(chance, p, many) for name, many in (("A", 3), ("B2", 4), ("Cc", 2))}


class Meaning(unittest.TestCase):

    def test_against_plain_values(self):
        chance = random.Random(711)
        for _ in range(400):
            p = chance.choice((2, 3))
            machines = machines_by_chance(chance, p) if chance.random() < 0.7 else {}
            text, value = Plain(chance, machines).whole([], 3)
            self.assertIs(decide(Statement(text), machines), value({}), text)

    def test_free_letters_against_plain_values(self):
        chance = random.Random(712)
        for _ in range(250):
            p = chance.choice((2, 3, 5, 7))
            free = chance.choice((["x"], ["x", "y"], ["y", "z"]))
            machines = machines_by_chance(chance, p)
            text, value = Plain(chance, machines).whole(free, 1 if p > 3 else 2)
            statement = Statement(text)
            if statement.letters:
                below = chance.choice((0, 1, 2, 7, 9))
                found = [row for row in itertools.product(range(below), repeat=len(statement.letters))
                         if value(dict(zip(statement.letters, row)))]
                self.assertEqual(solutions(statement, machines, below), tuple(found), text)
            if len(statement.letters) == 1:
                machine = truth_machine(statement, machines)
                self.assertEqual(machine, least_machine(machine))
                self.assertEqual([machine.at(n) for n in range(70)],
                                 [int(value({statement.letters[0]: n})) for n in range(70)], text)

    def test_each_word(self):
        machines = {"Odd": ODD, "T": THUE}
        for text, told in (
                ("for all x: there is y: y = 2*x", True), ("for all x: there is y: x = 2*y", False),
                ("for all x: there is y: x = 2*y or x = 2*y + 1", True), ("for all x, y: x + y = y + x", True),
                ("there is x: for all y: not y < x", True), ("there is x: for all y: y < x", False),
                ("for all y: there is x: y < x", True), ("for all x: x < x + 1", True), ("1 < 1", False),
                ("for all x: x = x and not x < x", True), ("0 = 0 or 1 = 0 and 1 = 0", True),
                ("(0 = 0 or 1 = 0) and 1 = 0", False), ("not 1 = 0 and 1 = 0", False), ("not (1 = 0 and 1 = 0)", True),
                ("there is x: x = 1 and for all x: x = x", True), ("there is x: x = 1 and for all x: x = 1", False),
                ("for all x: x = 1 or x = 2 or 0 = 0", True), ("(for all x: x = 1 or x = 2) or 0 = 0", True),
                ("there is x, x: x = 3", True), ("for all x: there is x: x = 3", True),
                ("there is x: 999999 + 999999 = 2 * x", True), ("there is x, y: 3*x = 2*y + 1 and y < 2", True),
                ("for all x: x + 2*x + 3*x + 4*x = 2*x + 4*x + 4*x", True),
                ("for all x, y: not x < y or x + 1 < y + 1", True), ("for all x, y: x < y or y < x", False),
                ("for all x: Odd at 2*x is 0", True), ("for all x: Odd at 2*x + 1 is 1", True),
                ("for all x: Odd at x is 0 or Odd at x + 1 is 0", True), ("for all x: Odd at 3*x is 1", False),
                ("there is x: Odd at x is 2", False), ("for all x: Odd at x is 0 or Odd at x is 1", True),
                ("for all x: T at 2*x is 0 and T at x is 0 or T at 2*x is 1 and T at x is 1", True),
                ("for all x: not (T at x is 0 and T at 2*x + 1 is 0 or T at x is 1 and T at 2*x + 1 is 1)", True),
                ("there is x: T at x is 0 and T at x + 1 is 0 and T at x + 2 is 0", False),
                ("there is x: T at x is 0 and T at x + 1 is 0", True), ("T at 7 is 1", True), ("T at 5 + 1 is 1", False),
                ("for all x: there is y: x < y and T at y is 0", True)):
            self.assertIs(decide(Statement(text), machines), told, text)

    def test_brackets_and_letters_of_the_innermost_words(self):
        for text, told in (("there is x: (x = 2 and there is x: x = 5) and x < 3", True),
                           ("for all x: (there is x: x = 0) or x = 9", True),
                           ("for all x: there is x: x = 0 and x = 9", False)):
            self.assertIs(decide(Statement(text), {}), told, text)

    def test_counts(self):
        # A binomial coefficient in the middle is odd at 0 alone.
        middle = machine_of(Count("at[2, 0: walk[x + x^-1]]"), 2)
        statement = Statement("for all n: Middle at n is 0 or n = 0")
        self.assertTrue(decide(statement, {"Middle": middle}))
        self.assertEqual(witness(Statement("for all n: Middle at n + 1 is 1"), {"Middle": middle}), (0,))


class Machines(unittest.TestCase):

    def test_truth_machine(self):
        for text, machines, p, right in (
                ("there is y: x = 3 * y", {}, 2, lambda n: n % 3 == 0), ("x < 1000", {}, 2, lambda n: n < 1000),
                ("x = 999999", {}, 2, lambda n: n == 999999), ("x = x", {}, 2, lambda n: True),
                ("x < 0", {}, 2, lambda n: False), ("x + 0 < 4 * x", {}, 2, lambda n: n > 0),
                ("T at x + 1 is 1", {"T": THUE}, 2, lambda n: (n + 1).bit_count() % 2 == 1),
                ("there is y: x = 2 * y and B at x is 1", {"B": THIRD}, 3, lambda n: n % 6 == 0),
                ("for all y: y = 0 or x < 2 * y + 3", {"B": THIRD}, 2, lambda n: n < 5)):
            machine = truth_machine(Statement(text), machines)
            self.assertEqual((machine.p, least_machine(machine)), (p, machine))
            for n in list(range(130)) + [998, 999, 1000, 1001, 999998, 999999, 10 ** 6]:
                self.assertEqual(machine.at(n), int(right(n)), (text, n))

    def test_least_and_numbered(self):
        self.assertEqual(truth_machine(Statement("x = x"), {}), Machine(2, [(0, 0)], (1,)))
        self.assertEqual(truth_machine(Statement("x = 0"), {}), Machine(2, [(0, 1), (1, 1)], (1, 0)))
        self.assertEqual(truth_machine(Statement("B at q is 7"), {"B": THIRD}), Machine(3, [(0, 0, 0)], (0,)))


class Solutions(unittest.TestCase):

    def test_bounds(self):
        statement = Statement("b = 2 * a")
        self.assertEqual(solutions(statement, {}, 0), ())
        self.assertEqual(solutions(statement, {}, 1), ((0, 0),))
        self.assertEqual(solutions(statement, {}, 60), tuple((n, 2 * n) for n in range(30)))
        self.assertEqual(solutions(Statement("x = x"), {}, 60), tuple((n,) for n in range(60)))
        self.assertEqual(solutions(Statement("x < 0"), {}, 60), ())
        self.assertEqual(solutions(Statement("c = c and b < 1 and a = a"), {}, 2), (
            (0, 0, 0), (0, 0, 1), (1, 0, 0), (1, 0, 1)))

    def test_the_greatest(self):
        begun = time.time()
        found = solutions(Statement("x + y < z"), {}, 60)
        self.assertEqual(found, tuple((x, y, z) for x in range(60) for y in range(60) for z in range(x + y + 1, 60)))
        self.assertEqual(len(solutions(Statement("x = x and y = y and z = z"), {}, 60)), 60 ** 3)
        self.assertLess(time.time() - begun, 10)


class Witnesses(unittest.TestCase):

    def test_least_values(self):
        machines = {"T": THUE}
        for text, told in (
                ("there is x: 3 * x = 27", (9,)), ("there is x: 3 * x = 28", None), ("for all x: x < 7", (7,)),
                ("for all x: x < x + 1", None), ("for all x, y: x < 3 or y < 5", (3, 5)),
                ("there is x, y: 2 < x and x < y", (3, 4)), ("there is y, x: 2 < x and x < y", (4, 3)),
                ("for all x: for all y: x < 3 or y < 5", (3, 5)), ("for all x: (for all y: x < 3 or y < 5)", (3, 5)),
                ("(for all x: ((for all y: (x < 3 or y < 5))))", (3, 5)),
                ("for all x: there is y: y < x", (0,)), ("there is x: for all y: not y < x", (0,)),
                ("there is x: for all y: y < x", None), ("for all x: there is y: x < y", None),
                ("there is x: x = 1 and there is y: y = 2", (1,)), ("there is x: there is y: y = 2 and x = 1", (1, 2)),
                ("there is x, x: x = 3", (0, 3)), ("there is x: there is x: x = 3", (0, 3)),
                ("there is x, y, x: x = 3 and y = 1", (0, 1, 3)), ("for all x, y, x: x = 0", (0, 0, 1)),
                ("there is x, y: y = 4", (0, 4)), ("there is x: 1 = 1", (0,)), ("for all x: 1 = 1", None),
                ("for all x: 1 = 2", (0,)), ("1 = 1", None), ("1 = 2", None), ("not for all x: x = 0", None),
                ("for all x: x = 0 or 1 = 2", (1,)), ("(for all x: x = 0) or 1 = 2", None),
                ("not there is x: x = 0", None), ("(there is x: x = 2) and (there is x: x = 1)", None),
                ("there is x, y, z: x + y + z = 5 and x < y and y < z", (0, 1, 4)),
                ("there is x, y: 999998 < x and x = 2 * y", (1000000, 500000)),
                ("there is x: T at x is 0 and T at x + 1 is 0", (5,)), ("for all x: T at x is 0 or T at x + 1 is 0", (1,)),
                ("for all x, y: T at x + y is 0", (0, 1)), ("there is x, y: T at x is 1 and T at x + y is 0", (1, 2)),
                ("for all x: not not x = 0", (1,)), ("there is x: not (for all y: x < y)", (0,))):
            self.assertEqual(witness(Statement(text), machines), told, text)

    def test_against_plain_values(self):
        chance = random.Random(713)
        for _ in range(300):
            p = chance.choice((2, 3))
            machines = machines_by_chance(chance, p)
            letters = chance.choice((["x"], ["x", "y"], ["y", "x"], ["z", "x"]))
            inner, value = Plain(chance, machines).whole(sorted(letters), 1)
            bound = chance.choice((4, 9))
            small = " and ".join(f"{letter} < {bound}" for letter in letters)
            rows = list(itertools.product(range(bound), repeat=len(letters)))
            named = ", ".join(letters)
            right = [row for row in rows if value(dict(zip(letters, row)))]
            wrong = [row for row in rows if not value(dict(zip(letters, row)))]
            text = f"there is {named}: {small} and ({inner})"
            self.assertEqual(witness(Statement(text), machines), right[0] if right else None, text)
            text = f"for all {': for all '.join(letters)}: not ({small}) or ({inner})"
            self.assertEqual(witness(Statement(text), machines), wrong[0] if wrong else None, text)


def functions(below=5):
    return (decide, truth_machine, witness, lambda statement, machines: solutions(statement, machines, below))


class Errors(unittest.TestCase):

    def fails(self, error, fields, text, machines, called):
        with self.assertRaises(error) as caught:
            called(Statement(text), machines)
        self.assertEqual(tuple(vars(caught.exception).values()), fields, text)

    def test_names_and_machines_first(self):
        large = Machine(2, [(0, 0)] * 13, (1,) * 13)
        just = Machine(2, [(0, 0)] * 12, (1,) * 12)
        third = Machine(3, [(0, 0, 0)], (1,))
        large3 = Machine(3, [(0, 0, 0)] * 13, (1,) * 13)
        for called in functions() + functions("no number"):
            # These fail for the errors below, too: they have two free letters, or none, and a wrong bound.
            for text in ("B at x is 1 and A at y is 1", "B at 0 is 1 or A at 1 is 2",
                         "for all x: there is y: (B at x is 1 and not (A at y is 1))"):
                self.fails(NoName, ("B",), text, {}, called)
                self.fails(NoName, ("B",), text, {"A": large, "C": large}, called)
                self.fails(NoName, ("A",), text, {"B": large, "C": third}, called)
                self.fails(TooMany, ("states", 12), text, {"A": large, "B": third}, called)
                self.fails(TooMany, ("states", 12), text, {"A": third, "B": large}, called)
                self.fails(TooMany, ("states", 12), text, {"A": just, "B": large3}, called)
                self.fails(Unlike, ("p",), text, {"A": just, "B": third}, called)
                self.fails(Unlike, ("p",), text, {"A": third, "B": just}, called)

    def test_names_that_the_text_has_not_mean_nothing(self):
        machines = {"A": THUE, "B": Machine(3, [(0, 0, 0)] * 13, (1,) * 13), "no name": ODD}
        self.assertTrue(decide(Statement("A at 1 is 1"), machines))
        self.assertEqual(truth_machine(Statement("x = x"), machines).p, 2)
        self.assertEqual(list(machines), ["A", "B", "no name"])

    def test_free_letters(self):
        for text, letter in (("x = y", "x"), ("for all x: x = z or z = y", "y"), ("A at z is 1", "z")):
            for called in (decide, witness):
                self.fails(BadName, (letter,), text, {"A": THUE}, called)
        for text, many in (("x = y", 2), ("1 = 1", 0), ("for all x: x = 1", 0), ("x + y < z", 3), ("A at 1 is 1", 0)):
            self.fails(BadNumber, ("letters", many), text, {"A": THUE}, truth_machine)

    def test_solutions(self):
        for below in NO_NUMBERS + (-1, 61, 10 ** 30):
            for text in ("1 = 1", "for all x: x = 1"):
                self.fails(BadNumber, ("letters", 0), text, {}, functions(below)[-1])
            self.fails(BadNumber, ("below", below), "x = y", {}, functions(below)[-1])

    def test_nothing_is_changed(self):
        machines = {"A": THUE}
        statement = Statement("for all x: A at x is 1")
        witness(statement, machines)
        self.assertEqual(list(machines.items()), [("A", THUE)])
        self.assertEqual((statement.text, statement.letters), ("for all x: A at x is 1", ()))


class Sizes(unittest.TestCase):

    def test_the_greatest_sizes(self):
        chance = random.Random(714)
        begun = time.time()
        for p in (2, 3, 5, 7):
            for _ in range(4):
                machines = {name: random_machine(chance, p, many) for name, many in
                            (("A", 12), ("B", 6), ("C", 4), ("D", 3), ("E", 2))}
                truth_machine(Statement("there is y: A at x + y is 1"), machines)
                truth_machine(Statement("for all y: C at 4*x + 2*y is 1"), machines)
                truth_machine(Statement("there is y: D at 2*x + 2*y is 1 and y < x + 4"),
                              machines)
                if p < 7:
                    decide(Statement("for all x: there is y: for all z: E at 4*x + 4*y + 4*z is 1"), machines)
                    decide(Statement("there is x: for all y: there is z: B at x + y + 2*z + 999999 is 1"), machines)
        self.assertLess(time.time() - begun, 20)

    def test_many_parts(self):
        begun = time.time()
        text = ("there is x: A at x is 1 and A at x + 1 is 0 and A at x + 2 is 0 and B at x is 0 and"
                " 99999 < x and x < 999999 and not x = 100002 and 3 < x")
        least = min(n for n in range(100000, 200000) if n != 100002 and n % 2 == 0 and [
            (n + more).bit_count() % 2 for more in range(3)] == [1, 0, 0])
        self.assertEqual(witness(Statement(text), {"A": THUE, "B": ODD}), (least,))
        self.assertEqual(witness(Statement(text), {"A": THUE, "B": Machine(2, [(0, 0)], (1,))}), None)
        self.assertLess(time.time() - begun, 5)


if __name__ == "__main__":
    unittest.main()
