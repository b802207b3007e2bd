"""[79] to [85] the desk: edits, promises, attempts, trials and questions."""

import random
import time
import unittest

from plain_desk import PlainDesk, error_of
from restcounts.counts import Count
from restcounts.desk import Desk
from restcounts.errors import (
    BadLine, BadName, BadText, NoName, NotKept, NothingToRedo, NothingToUndo, TakenName, TooLarge, TooMany)
from restcounts.machines import machine_of
from restcounts.numbers import how_many
from restcounts.residuals import fewest
from restcounts.tables import rest_at

# Counts with just 60 and with 61 states modulo 2.
SIXTY = f"walk[x; x^-{2 ** 57}]"
MORE = f"walk[x; x^-{2 ** 58}]"

NAMES = ("A", "Ab", "B", "B1")
PIECES = ("walk[x + x^-1]", "walk[1 + x]", "walk[x + 1 + x^-1]", "0", "2", "sum[1]", "at[2, 0: {0}]", "{0} + {1}",
          "{0}*{1}", "-{0}", "next[{0}]", " {0} - {1} ", "({0})", "4 * {0}", "sum[{0}]", "{0}$", "", "walk[2]", MORE)
PROMISES = ("{0} alike {1}", "{0} never {2}", "{0} follows", "{0} divided by {2}", "always {0} at x is {2} or 0 < x",
            "always {0} at x is 0 or {0} at x is 1", " {0}  alike  {0} ", "always({0} at {2} is 1)",
            "always there is x: 2 < x and {0} at x + y is 0", "{0} never", "always a = b or c = d", "{0} divided by 0")
FAR = 10 ** 60


class Stop(Exception):
    pass


class Chance:
    """Edits by chance, made at a desk and at a plain one."""

    def __init__(self, test, seed, m, known):
        self.test = test
        self.chance = random.Random(seed)
        text = self.chance.choice(("A = walk[1 + x]\nB1 = 1\nAb = B1 + B1\n", "Ab = 1\nB = 1\nA = B\nB1 = B - B", ""))
        self.desk = Desk(m, text)
        self.plain = PlainDesk(m, known)
        self.plain.put(text)
        self.plain.undo()
        self.plain.levels[0] = [*self.plain.levels[0][3][0], [], []]
        self.m = m

    def name(self):
        return self.chance.choice(NAMES)

    def expression(self):
        return self.chance.choice(PIECES).format(self.name(), self.name())

    def promise(self):
        made = self.plain.levels[-1][1]
        if made and self.chance.random() < 0.3:
            return self.chance.choice(made)
        return self.chance.choice(PROMISES).format(self.name(), self.name(), self.chance.randrange(self.m))

    def edit(self):
        kind = self.chance.choice(("put", "put", "put", "define", "define", "define", "define", "drop", "rename", "keep",
                                   "keep", "keep", "keep", "release", "undo", "redo"))
        if kind == "put":
            rows = [f"{self.name()} = {self.expression()}" for _ in range(self.chance.randrange(3))]
            return kind, "\n".join(rows)
        if kind == "define":
            return kind, self.chance.choice((self.name(), self.name(), self.name(), "a")), self.expression()
        if kind == "rename":
            return kind, self.name(), self.chance.choice((self.name(), self.name(), "AB", "C9"))
        if kind == "drop":
            return kind, self.name()
        return (kind, self.promise()) if kind in ("keep", "release") else (kind,)

    def same(self, told):
        desk = self.desk
        self.test.assertEqual((desk.names(), desk.lines(), desk.promises()), self.plain.state(), told)

    def steps(self, deep, many):
        for _ in range(many):
            kind = self.chance.choice(("attempt", "trial", "with")) if deep and self.chance.random() < 0.15 else None
            if kind:
                self.within(kind, deep - 1, self.chance.randrange(5), self.chance.random() < 0.3)
                continue
            edit, *values = self.edit()
            expected = self.plain.error_of(edit, *values)
            self.test.assertEqual(error_of(getattr(self.desk, edit), *values), expected, (edit, values))
            self.same((edit, values, expected))
            if self.chance.random() < 0.2:
                self.look()

    def look(self):
        """Look at all promises."""
        expected = self.plain.error_of("check", self.plain.items(), ())
        told = []
        for promise in self.plain.levels[-1][1]:
            expected = expected or self.plain.error_of("look", promise, self.plain.items())
            if not expected:
                found = self.plain.look(promise, self.plain.items())
                self.test.assertEqual(self.desk.kept(promise), found)
                if not found[0]:
                    told.append((promise, found[1]))
        self.test.assertEqual(error_of(self.desk.broken), expected)
        if not expected:
            self.test.assertEqual(self.desk.broken(), tuple(told))

    def within(self, kind, deep, many, fails):
        desk, plain = self.desk, self.plain

        def action(given):
            self.test.assertIs(given, desk)
            self.steps(deep, many)
            if fails:
                raise Stop()
            return 17

        def block():
            with desk as tried:
                return action(tried)
        plain.begin()
        try:
            found = block() if kind == "with" else getattr(desk, kind)(action)
        except Stop:
            found = "stop"
        except Exception as error:
            found = (type(error), *vars(error).values())
        expected = plain.error_of("end", kind, fails) or ("stop" if fails else 17)
        self.test.assertEqual(found, expected, kind)
        self.same((kind, fails))


class Model(unittest.TestCase):

    def test_edits_by_chance(self):
        known = {}
        for seed in range(100):
            Chance(self, 9200 + seed, (2, 3, 4)[seed % 3], known).steps(2, 60)
        self.assertEqual({len(told) for told in known.values()}, {2, 3})


def states(desk):
    return desk.names(), desk.lines(), desk.promises()


class Edits(unittest.TestCase):

    def desk(self):
        return Desk(3, "A = walk[x + x^-1]\nM = at[2, 0: A]\nAb = A + M\nOne = 1")

    def test_put(self):
        desk = self.desk()
        desk.put("Ab = M * M\n New =  Ab - One \n")
        self.assertEqual(desk.lines(), "A = walk[x + x^-1]\nM = at[2, 0: A]\nAb = M * M\nOne = 1\nNew = Ab - One\n")
        self.assertEqual(desk.names(), ("A", "M", "Ab", "One", "New"))
        self.assertEqual(desk.get("New").text, "((at[2, 0: (walk[x + x^-1])]) * (at[2, 0: (walk[x + x^-1])])) - (1)")

    def test_get(self):
        desk = self.desk()
        for name, text in (("A", "walk[x + x^-1]"), ("M", "at[2, 0: (walk[x + x^-1])]"), ("One", "1"),
                           ("Ab", "(walk[x + x^-1]) + (at[2, 0: (walk[x + x^-1])])")):
            count = desk.get(name)
            self.assertIsInstance(count, Count)
            self.assertEqual((count.text, count.tree), (text, Count(text).tree))
        self.assertEqual(error_of(desk.get, "B"), (NoName, "B"))
        # What is told stands behind later edits.
        before = desk.get("M")
        desk.define("A", "2")
        self.assertEqual((before.value(1), desk.get("M").value(1)), (2, 2))
        self.assertEqual(desk.get("M").text, "at[2, 0: (2)]")

    def test_drop(self):
        desk = self.desk()
        desk.keep("Ab alike Ab")
        desk.keep("M never 7" if desk.m > 7 else "One never 0")
        self.assertEqual(error_of(desk.drop, "A"), (TakenName, "M"))
        self.assertEqual(error_of(desk.drop, "M"), (TakenName, "Ab"))
        self.assertEqual(error_of(desk.drop, "Nobody"), (NoName, "Nobody"))
        desk.keep("always One at x is 1 or Ab at x is 0")
        desk.drop("Ab")
        self.assertEqual((desk.names(), desk.promises()), (("A", "M", "One"), ("One never 0",)))
        # One edit: the item and the promises come back together.
        desk.undo()
        self.assertEqual((desk.names(), desk.promises()), (("A", "M", "Ab", "One"), (
            "Ab alike Ab", "One never 0", "always One at x is 1 or Ab at x is 0")))
        desk.redo()
        self.assertEqual(desk.promises(), ("One never 0",))
        desk.drop("M")
        self.assertEqual(desk.names(), ("A", "One"))

    def test_names_within_names(self):
        desk = Desk(2, "A = 1\nAb = A+A*( A )\nAb1 = sum[A]+Ab\nB = Ab1 - Ab-A")
        for promise in ("A alike A", " A  never 0 ", "always(A at x is 1)and(Ab at 2*a is 0 or 1=1)"):
            desk.keep(promise)
        self.assertEqual(error_of(desk.drop, "A"), (TakenName, "Ab"))
        self.assertEqual(error_of(desk.drop, "Ab"), (TakenName, "Ab1"))
        desk.rename("A", "X9")
        self.assertEqual(desk.lines(), "X9 = 1\nAb = X9+X9*( X9 )\nAb1 = sum[X9]+Ab\nB = Ab1 - Ab-X9\n")
        self.assertEqual(desk.promises(), (
            "X9 alike X9", " X9  never 0 ", "always(X9 at x is 1)and(Ab at 2*a is 0 or 1=1)"))
        desk.rename("Ab", "A")
        self.assertEqual(desk.lines(), "X9 = 1\nA = X9+X9*( X9 )\nAb1 = sum[X9]+A\nB = Ab1 - A-X9\n")
        self.assertEqual(desk.promises()[2], "always(X9 at x is 1)and(A at 2*a is 0 or 1=1)")
        desk.drop("B")
        desk.drop("Ab1")
        desk.drop("A")
        self.assertEqual((desk.lines(), desk.promises()), ("X9 = 1\n", ("X9 alike X9", " X9  never 0 ")))
        self.assertEqual(error_of(desk.rename, "X9", "X9"), (TakenName, "X9"))
        self.assertEqual(error_of(desk.rename, "Y", "X9"), (NoName, "Y"))
        self.assertEqual(error_of(desk.rename, "Y", "x9"), (BadName, "x9"))

    def test_keep_and_release(self):
        desk = self.desk()
        self.assertEqual(desk.promises(), ())
        desk.keep("One never 0")
        desk.keep(" One never 0")
        desk.keep("One never 0")
        self.assertEqual(desk.promises(), ("One never 0", " One never 0"))
        # Making a promise again is an edit, too.
        desk.undo()
        self.assertEqual(desk.promises(), ("One never 0", " One never 0"))
        desk.undo()
        self.assertEqual(desk.promises(), ("One never 0",))
        desk.release("One never 0")
        self.assertEqual(desk.promises(), ())
        for promise in ("One never 0", "no promise", 5, None, ["One never 0"]):
            self.assertEqual(error_of(desk.release, promise), (NoName, promise))

    def test_undo_and_redo(self):
        desk = self.desk()
        self.assertEqual(error_of(desk.undo), (NothingToUndo,))
        self.assertEqual(error_of(desk.redo), (NothingToRedo,))
        seen = [states(desk)]
        for edit, *values in (("define", "One", "2"), ("put", ""), ("keep", "One never 0"), ("rename", "One", "Two"),
                              ("drop", "Ab"), ("release", "Two never 0")):
            getattr(desk, edit)(*values)
            seen.append(states(desk))
        self.assertEqual(error_of(desk.redo), (NothingToRedo,))
        for _ in range(3):
            for state in reversed(seen[:-1]):
                desk.undo()
                self.assertEqual(states(desk), state)
            self.assertEqual(error_of(desk.undo), (NothingToUndo,))
            for state in seen[1:]:
                desk.redo()
                self.assertEqual(states(desk), state)
            self.assertEqual(error_of(desk.redo), (NothingToRedo,))
        desk.undo()
        # A call that raises an error is no edit; one that changes nothing is.
        self.assertEqual(error_of(desk.define, "One", "$"), (BadText, 1))
        desk.redo()
        desk.undo()
        desk.put("")
        self.assertEqual(error_of(desk.redo), (NothingToRedo,))
        desk.undo()
        self.assertEqual(states(desk), seen[-2])

    def test_promises_hold_behind_each_edit(self):
        desk = self.desk()
        desk.keep("A alike A")
        desk.keep("One never 0")
        desk.keep("M follows")
        before = states(desk)
        for edit, values, error in (
                ("define", ("One", "sum[1]"), ("One never 0", 0)), ("define", ("A", "sum[1] + 1"), ("M follows", 3)),
                ("put", ("One = A\nA = sum[1] + 1",), ("One never 0", 2)),
                ("keep", ("One never 1",), ("One never 1", 0)),
                ("keep", ("A alike M",), ("A alike M", 1)), ("keep", ("always 1 = 2",), ("always 1 = 2", None))):
            self.assertEqual(error_of(getattr(desk, edit), *values), (NotKept, *error), (edit, values))
            self.assertEqual(states(desk), before)
        self.assertEqual(error_of(desk.redo), (NothingToRedo,))
        desk.undo()
        self.assertEqual(desk.promises(), ("A alike A", "One never 0"))
        # Once a promise is released, what it forbade may be done.
        desk.release("One never 0")
        desk.define("One", "sum[1]")
        self.assertEqual(desk.get("One").text, "sum[1]")


class Promises(unittest.TestCase):

    def test_each_kind(self):
        desk = Desk(4, "A = walk[x + x^-1]\nM = at[2, 0: A]\nN = sum[1]\nTwice = 2 * A\nP = walk[x + 2 + x^-1]")
        for promise, told in (
                ("M alike P", (True, None)), ("A alike M", (False, 1)), ("N alike N", (True, None)),
                ("A never 3", (True, None)), ("A never 2", (False, 2)), ("M never 0", (False, 3)),
                ("N never 3", (False, 3)),
                ("M follows", (True, None)), ("N follows", (False, 1)), ("N divided by 0", (True, None)),
                ("N divided by 1", (False, 1)), ("M divided by 1", (False, 0)),
                ("Twice divided by 1", (True, None)), ("Twice divided by 2", (False, 0)),
                ("always N at 4*x + 1 is 1", (True, None)), ("always N at x + y is 0", (False, (0, 1))),
                ("always N at y + 2*x is 1 or x < y", (False, (0, 0))),
                ("always there is x: N at x + y is 3", (True, None)),
                ("always for all x: x < 3 or z < 2", (False, (2, 3))), ("always 1 = 1", (True, None)),
                ("always x < 3 or for all x: x < 3 or z < 2", (False, (3, 2))), ("always 1 = 2", (False, None)),
                ("always for all x: x < 3", (False, (3,))), ("always there is x: x < 0", (False, None)),
                ("always there is x: x < 1", (True, None)), ("always not x = 5 or y = 0", (False, (5, 1))),
                ("always N at 6 is 2 and not A at 2 is 3", (True, None))):
            self.assertEqual(desk.kept(promise), told, promise)
            self.assertEqual(desk.promises(), ())
            if told[0]:
                desk.keep(promise)
                desk.release(promise)
            else:
                self.assertEqual(error_of(desk.keep, promise), (NotKept, promise, told[1]))
        self.assertEqual(Desk(3, "M = at[2, 0: walk[x + x^-1]]").kept("M follows"), (True, None))
        self.assertEqual(desk.broken(), ())

    def test_broken(self):
        desk = Desk(2, "A = 0\nB = 0")
        desk.keep("A alike B")
        desk.keep("A never 1")
        desk.keep("always B at x is 0")

        def action(given):
            given.define("A", "sum[1]")
            self.assertEqual(given.broken(), (("A alike B", 1), ("A never 1", 1)))
            given.define("B", "1")
            self.assertEqual(given.broken(), (("A alike B", 0), ("A never 1", 1), ("always B at x is 0", (0,))))
            given.put("A = 0\nB = A + A")
            self.assertEqual(given.broken(), ())
            given.define("B", "sum[1]")
        self.assertEqual(error_of(desk.attempt, action), (NotKept, "A alike B", 1))
        self.assertEqual(desk.lines(), "A = 0\nB = 0\n")

    def test_what_can_no_longer_be_asked(self):
        self.assertEqual(machine_of(Count(SIXTY), 2).size, 60)
        desk = Desk(2, f"A = 1\nB = {MORE}\nC = 0")
        desk.keep("A never 0")
        desk.keep("C never 1")
        self.assertEqual(error_of(desk.define, "A", MORE), (TooMany, "states", 60))
        self.assertEqual(error_of(desk.keep, "B never 0"), (TooMany, "states", 60))
        self.assertEqual(error_of(desk.kept, "B never 0"), (TooMany, "states", 60))
        self.assertEqual(error_of(desk.kept, "always B at x is 0"), (TooMany, "states", 60))
        self.assertEqual(error_of(desk.define, "A", SIXTY), (NotKept, "A never 0", 0))
        desk.release("A never 0")
        desk.keep("always A at x is 1")
        # A machine of more than 12 states can be looked at, but no statement can be asked of it.
        self.assertEqual(error_of(desk.define, "A", SIXTY), (TooMany, "states", 12))
        self.assertEqual(error_of(desk.define, "A", MORE), (TooMany, "states", 60))
        self.assertEqual(desk.get("A").text, "1")
        # The machines of all names come ahead of what is asked of them.
        desk.put(f"D = {SIXTY}")
        self.assertEqual(error_of(desk.kept, "always D at x is 1 or B at x is 1"), (TooMany, "states", 60))
        self.assertEqual(error_of(desk.kept, "always D at x is 1 or A at x is 1"), (TooMany, "states", 12))
        # Within an attempt errors of promises come at once, and those of others at its end.
        seen = []

        def action(given):
            given.define("A", MORE)
            seen.append(error_of(given.broken))
            seen.append(error_of(given.keep, "B never 0"))
            seen.append(error_of(given.keep, "C never 0"))
        self.assertEqual(error_of(desk.attempt, action), (TooMany, "states", 60))
        self.assertEqual(seen, [(TooMany, "states", 60), (TooMany, "states", 60), None])
        self.assertEqual(desk.get("A").text, "1")

    def test_first_broken_promise_counts(self):
        desk = Desk(2, "A = 1\nB = 1")
        desk.keep("B alike B")
        desk.keep("B never 0")
        desk.keep("A alike B")
        self.assertEqual(error_of(desk.define, "B", "0"), (NotKept, "B never 0", 0))
        self.assertEqual(error_of(desk.define, "A", "0"), (NotKept, "A alike B", 0))
        self.assertEqual(error_of(desk.define, "B", MORE), (TooMany, "states", 60))
        desk.release("B never 0")
        desk.keep("B never 0")
        self.assertEqual(error_of(desk.define, "B", "0"), (NotKept, "A alike B", 0))


class Within(unittest.TestCase):

    def desk(self):
        desk = Desk(2, "A = 1")
        desk.keep("A never 0")
        return desk

    def test_attempt(self):
        desk = self.desk()

        def action(given):
            self.assertIs(given, desk)
            given.define("A", "0")
            self.assertEqual(given.kept("A never 0"), (False, 0))
            self.assertEqual(given.ask("A at 5"), "0")
            given.define("B", "A + 1")
            given.define("A", "3")
            return ["told"]
        self.assertEqual(desk.attempt(action), ["told"])
        self.assertEqual(desk.lines(), "A = 3\nB = A + 1\n")
        # It is one edit.
        desk.undo()
        self.assertEqual(desk.lines(), "A = 1\n")
        desk.redo()
        self.assertEqual(desk.lines(), "A = 3\nB = A + 1\n")

    def test_an_attempt_without_edits_is_an_edit(self):
        desk = self.desk()
        self.assertEqual(desk.attempt(lambda given: 5), 5)
        desk.undo()
        self.assertEqual(desk.promises(), ("A never 0",))
        desk.undo()
        self.assertEqual(desk.promises(), ())
        desk.redo()
        desk.attempt(lambda given: None)
        self.assertEqual(error_of(desk.redo), (NothingToRedo,))

    def test_errors_within(self):
        for error in (Stop, KeyError, ZeroDivisionError, KeyboardInterrupt, GeneratorExit):
            for kind in ("attempt", "trial"):
                desk = self.desk()
                desk.define("B", "2")
                desk.undo()
                before = states(desk)

                def action(given):
                    given.define("A", "0")
                    given.define("C", "A")
                    given.release("A never 0")
                    given.undo()
                    raise error()
                with self.assertRaises(error):
                    getattr(desk, kind)(action)
                self.assertEqual(states(desk), before)
                # All that could be undone and done again still can.
                desk.redo()
                self.assertEqual(desk.names(), ("A", "B"))
                desk.undo()
                desk.undo()
                self.assertEqual(desk.promises(), ())

    def test_an_attempt_that_breaks_a_promise(self):
        desk = self.desk()
        desk.define("B", "2")
        desk.undo()
        self.assertEqual(error_of(desk.attempt, lambda given: given.define("A", "2")), (NotKept, "A never 0", 0))
        self.assertEqual(states(desk), (("A",), "A = 1\n", ("A never 0",)))
        desk.redo()
        self.assertEqual(desk.names(), ("A", "B"))

    def test_trial(self):
        desk = self.desk()
        desk.define("B", "2")
        desk.undo()
        before = states(desk)

        def action(given):
            self.assertEqual(error_of(given.undo), (NothingToUndo,))
            self.assertEqual(error_of(given.redo), (NothingToRedo,))
            given.define("A", "0")
            given.undo()
            given.redo()
            self.assertEqual(given.broken(), (("A never 0", 0),))
            return given.get("A").text
        self.assertEqual(desk.trial(action), "0")
        self.assertEqual(states(desk), before)
        with desk as tried:
            self.assertIs(tried, desk)
            self.assertEqual(action(tried), "0")
        self.assertEqual(states(desk), before)
        with self.assertRaises(Stop):
            with desk as tried:
                action(tried)
                raise Stop()
        self.assertEqual(states(desk), before)
        desk.redo()
        self.assertEqual(desk.names(), ("A", "B"))

    def test_undo_knows_its_own_edits_alone(self):
        desk = self.desk()

        def action(given):
            self.assertEqual(error_of(given.undo), (NothingToUndo,))
            given.define("B", "1")
            given.attempt(lambda inner: inner.put("C = 1\nD = C"))
            given.undo()
            self.assertEqual(given.names(), ("A", "B"))
            given.undo()
            self.assertEqual(given.names(), ("A",))
            self.assertEqual(error_of(given.undo), (NothingToUndo,))
            given.redo()
            given.redo()
            self.assertEqual(error_of(given.redo), (NothingToRedo,))
            given.trial(lambda inner: self.assertEqual(error_of(inner.undo), (NothingToUndo,)))
        desk.attempt(action)
        self.assertEqual(desk.names(), ("A", "B", "C", "D"))
        desk.undo()
        self.assertEqual(desk.names(), ("A",))

    def test_within_each_other(self):
        desk = self.desk()

        def broken(given):
            given.define("A", "0")

        def outer(given):
            # No promises are looked at at the end of an attempt that is not the outermost one.
            given.attempt(broken)
            self.assertEqual(given.lines(), "A = 0\n")
            with self.assertRaises(Stop):
                given.attempt(fails)
            self.assertEqual(given.lines(), "A = 0\n")
            given.undo()
            self.assertEqual(given.lines(), "A = 1\n")
            given.redo()
            with given as tried:
                tried.put("B = A")
                tried.attempt(lambda inner: inner.drop("B"))
                tried.undo()
                self.assertEqual(tried.names(), ("A", "B"))
            self.assertEqual(given.names(), ("A",))
            given.define("A", "5")

        def fails(given):
            given.drop("A")
            raise Stop()
        desk.attempt(outer)
        self.assertEqual(desk.lines(), "A = 5\n")
        # Nor at the end of one within a trial.
        with desk as tried:
            tried.attempt(broken)
            self.assertEqual(tried.lines(), "A = 0\n")
        desk.trial(lambda given: given.attempt(broken))
        self.assertEqual(desk.lines(), "A = 5\n")
        self.assertEqual(error_of(desk.attempt, lambda given: given.trial(broken)), None)
        self.assertEqual(error_of(desk.attempt, broken), (NotKept, "A never 0", 0))
        with self.assertRaises(NotKept):
            desk.define("A", "0")
        self.assertEqual(desk.lines(), "A = 5\n")

    def test_keep_within(self):
        desk = self.desk()

        def action(given):
            given.keep("A never 1")
            self.assertEqual(error_of(given.keep, "A never 2"), (BadText, 9))
            self.assertEqual(error_of(given.keep, "B never 1"), (NoName, "B"))
            self.assertEqual(given.broken(), (("A never 1", 0),))
            given.release("A never 1")
        desk.attempt(action)
        self.assertEqual(desk.promises(), ("A never 0",))
        self.assertEqual(error_of(desk.attempt, lambda given: given.keep("A never 1")), (NotKept, "A never 1", 0))
        self.assertEqual(desk.promises(), ("A never 0",))


class Questions(unittest.TestCase):

    def test_each_kind(self):
        desk = Desk(9, "A = walk[x + x^-1]\nM = at[2, 0: A]\nP = walk[x + 2 + x^-1]\nZ = 0\nN = sum[1]")
        middle = desk.get("M")
        for question, told in (
                (f"M at {FAR}", str(rest_at(middle, FAR, 9))), ("M at 2", "6"), (" A  at  1 ", "0"),
                ("M apart P", "never"),
                ("M apart A", "1"), ("A apart M", "1"), ("Z apart Z", "never"), ("N first 8", "8"), ("N first 0", "0"),
                ("Z first 0", "0"), ("Z first 1", "never"), ("Z many 0 below 12", "12"), ("Z many 1 below 12", "0"),
                (f"N many 4 below {9 * 10 ** 50}", str(10 ** 50)), ("N many 4 below 0", "0"), ("N many 4 below 4", "0"),
                ("N many 4 below 5", "1"), ("M rows", str(fewest(middle, 9))), ("Z rows", "0"),
                ("N rows", str(fewest(Count("sum[1]"), 9)))):
            self.assertEqual(desk.ask(question), told, question)

    def test_many_against_machines(self):
        desk = Desk(3, "T = walk[x + 1 + x^-1]")
        machine = machine_of(desk.get("T"), 3)
        for rest in range(3):
            for below in (1, 27, 1000, FAR):
                self.assertEqual(desk.ask(f"T many {rest} below {below}"), str(how_many(machine, rest, below)))

    def test_errors(self):
        desk = Desk(2, f"A = {MORE}\nB = 1")
        far = FAR + 1
        for question, error in (
                ("A first 1", (TooMany, "states", 60)), (f"A many 1 below {far}", (TooMany, "states", 60)),
                (f"B many 1 below {far}", (TooLarge, "below", far, FAR)), (f"B many 2 below {far}", (BadText, 8)),
                ("C many 1 below 5", (NoName, "C")), ("C first 1", (NoName, "C")), ("C first 3", (BadText, 9))):
            self.assertEqual(error_of(desk.ask, question), error, question)
        self.assertEqual(desk.ask(f"B many 1 below {FAR}"), str(FAR))
        self.assertEqual(desk.ask(f"A at {2 ** 58}"), "1")

    def test_newest_state(self):
        desk = Desk(2, "A = 1")
        with desk as tried:
            tried.define("A", "2")
            self.assertEqual(tried.ask("A at 0"), "0")
            self.assertEqual(tried.kept("A never 0"), (False, 0))
        self.assertEqual(desk.ask("A at 0"), "1")
        self.assertEqual(desk.kept("A never 0"), (True, None))


class Sizes(unittest.TestCase):

    def test_twelve_items_and_promises(self):
        begun = time.time()
        rows = ["A0 = walk[x + x^-1]", "A1 = at[2, 0: A0]"] + [
            f"A{at} = A{at - 1} + {at} * A{at - 2}" if at < 5 else f"A{at} = next[A1] - {at}" for at in range(2, 12)]
        desk = Desk(27, "\n".join(rows))
        self.assertEqual(len(desk.names()), 12)
        for at in range(12):
            desk.keep(f"A{at} alike A{at}" if at % 2 else f"A{at} divided by 0")
        for at in range(12):
            desk.rename(f"A{at}", f"Long{at}")
        for at in range(5, 12):
            desk.define(f"Long{at}", f"next[Long1] + {at}")
            self.assertEqual(desk.ask(f"Long{at} at {FAR}"), str(rest_at(desk.get(f"Long{at}"), FAR, 27)))
        self.assertLess(time.time() - begun, 20)

    def test_nothing_is_changed_by_errors(self):
        desk = Desk(4, "A = 1\nB = A")
        desk.keep("A never 0")
        desk.put("C = 2")
        desk.undo()
        before = states(desk)
        for edit, *values in (
                ("put", "C = 1\nD = $"), ("put", "A = 0"), ("put", None), ("define", "A", "0"), ("define", "A", "B"),
                ("define", "a", "1"), ("drop", "A"), ("drop", "X"), ("rename", "A", "B"), ("rename", "X", "Y"),
                ("rename", "A", "ab"), ("keep", "A never 1"), ("keep", "A never 4"), ("keep", "X follows"),
                ("keep", 5), ("release", "B follows"), ("kept", "A"), ("ask", "A"), ("get", "X")):
            self.assertIsNotNone(error_of(getattr(desk, edit), *values), (edit, values))
            self.assertEqual(states(desk), before)
        desk.redo()
        self.assertEqual(desk.names(), ("A", "B", "C"))
        self.assertEqual(error_of(desk.put, None), (BadLine, 0, 0))


if __name__ == "__main__":
    unittest.main()
