"""[63] to [69] how many numbers, which, and how often."""

import random
import time
import unittest
from fractions import Fraction
from math import gcd

from plain_counts import NO_NUMBERS
from plain_machines import random_machine, random_machines
from restcounts.counts import Count
from restcounts.errors import BadNumber, TooLarge, TooMany, Unlike
from restcounts.machines import Machine, comes, machine_of
from restcounts.numbers import (
    Period, Shares, as_many, breaks_period, how_many, nth, period_of, recurrence, shares)

FAR = 10 ** 60


def ring(p, length):
    """A machine that tells the number of digits up to the highest one that is not 0, modulo length.

    The states 0 to length - 1 stand behind a digit that is not 0, the others behind zeros.
    """
    # State (value, steps): steps so far modulo length.
    names = [(value, steps) for value in range(length) for steps in range(length)]
    place = {name: at for at, name in enumerate(names)}
    moves = [[place[value, (steps + 1) % length]] + [place[(steps + 1) % length, (steps + 1) % length]] * (p - 1)
             for value, steps in names]
    return Machine(p, moves, [value for value, _ in names])


def values_of(machine, many):
    return [machine.at(n) for n in range(many)]


def numbers_plainly(machine, value, many):
    """N(L) for L below many, by going from state to state."""
    ways, found = {0: 1}, []
    for _ in range(many):
        found.append(sum(number for state, number in ways.items() if machine.worths[state] == value))
        further = {}
        for state, number in ways.items():
            for to in machine.moves[state]:
                further[to] = further.get(to, 0) + number
        ways = further
    return found


class Counting(unittest.TestCase):

    def test_how_many(self):
        for chance, machine in random_machines(501, 150):
            p = machine.p
            values = values_of(machine, p ** 3 + 2)
            for below in [0, 1, p - 1, p, p + 1, p ** 2 - 1, p ** 2, p ** 3, p ** 3 + 1, chance.randrange(p ** 3)]:
                for value in (0, 1, 2, 3, -1):
                    self.assertEqual(how_many(machine, value, below), values[:below].count(value))
            self.assertEqual(sum(how_many(machine, value, FAR) for value in range(3)), FAR)
            n = chance.randrange(FAR)
            for value in range(3):
                self.assertEqual(how_many(machine, value, n + 1) - how_many(machine, value, n),
                                 1 if machine.at(n) == value else 0)

    def check(self, error, told, call, *arguments):
        with self.assertRaises(error) as caught:
            call(*arguments)
        self.assertIs(type(caught.exception), error)
        self.assertEqual(tuple(vars(caught.exception).values()), told)

    def test_how_many_errors(self):
        machine = ring(2, 3)
        for value in NO_NUMBERS:
            self.check(BadNumber, ("below", value), how_many, machine, 0, value)
        for value in (FAR + 1, 10 ** 100):
            self.check(TooLarge, ("below", value, FAR), how_many, machine, 0, value)

    def test_nth(self):
        for chance, machine in random_machines(502, 150):
            p = machine.p
            values = values_of(machine, p ** 4)
            for value in (0, 1, 2):
                where = [n for n, told in enumerate(values) if told == value]
                for number in (1, 2, 3, chance.randrange(1, 300), len(where)):
                    if 0 < number <= len(where):
                        self.assertEqual(nth(machine, value, number), where[number - 1])
            self.assertIsNone(nth(machine, 3, 1))

    def test_nth_far(self):
        odd = Machine(2, [[0, 1], [1, 0]], [0, 1])
        number = 5 * 10 ** 59
        n = nth(odd, 1, number)
        self.assertEqual((how_many(odd, 1, n), how_many(odd, 1, n + 1)), (number - 1, number))
        self.assertIn(n, (FAR - 2, FAR - 1))
        self.assertIsNone(nth(odd, 1, number + 1))
        self.assertIsNone(nth(odd, 1, 10 ** 100))
        # Powers of 2 alone: 200 of them are below 10 ** 60.
        powers = Machine(2, [[0, 1], [1, 2], [2, 2]], [0, 1, 0])
        many = how_many(powers, 1, FAR)
        self.assertEqual(nth(powers, 1, many), 2 ** (many - 1))
        self.assertIsNone(nth(powers, 1, many + 1))
        everything = Machine(7, [[0] * 7], [4])
        self.assertEqual((nth(everything, 4, FAR), nth(everything, 4, FAR + 1)), (FAR - 1, None))

    def test_nth_errors(self):
        for value in NO_NUMBERS + (0,):
            self.check(BadNumber, ("number", value), nth, ring(2, 2), 0, value)


class Parts(unittest.TestCase):

    def check_shares(self, machine):
        told = shares(machine)
        self.assertIs(type(told), Shares)
        values = [value for value, _ in comes(machine)]
        self.assertEqual(len(told.limits), told.period)
        many = 1500
        rows = {value: numbers_plainly(machine, value, many + 60) for value in values}
        for j, pairs in enumerate(told.limits):
            self.assertEqual([value for value, _ in pairs], values)
            self.assertEqual(sum(Fraction(*limit) for _, limit in pairs), 1)
            at = many - many % told.period + j
            for value, (top, bottom) in pairs:
                self.assertTrue(bottom > 0 and top >= 0 and gcd(top, bottom) == 1)
                share = Fraction(rows[value][at], machine.p ** at)
                self.assertLess(abs(share - Fraction(top, bottom)), Fraction(1, 10 ** 4))
        # No shorter one: some limits differ.
        for less in range(1, told.period):
            if told.period % less == 0:
                self.assertTrue(any(told.limits[j] != told.limits[(j + less) % told.period]
                                    for j in range(told.period)))
        return told

    def test_against_plain_shares(self):
        for _, machine in random_machines(503, 100):
            self.check_shares(machine)
        for p, lengths in ((3, (2,)), (5, (2, 3)), (5, (4, 6)), (7, (1, 2, 3))):
            self.check_shares(many_rings(p, lengths))

    def test_known_ones(self):
        odd = Machine(2, [[0, 1], [1, 0]], [0, 1])
        self.assertEqual((shares(odd).period, shares(odd).limits), (1, (((0, (1, 2)), (1, (1, 2))),)))
        # Values with the limit 0, also where only one n has them.
        zero = Machine(3, [[0, 1, 1], [1, 1, 1]], [5, -2])
        self.assertEqual(shares(zero).limits, (((-2, (1, 1)), (5, (0, 1))),))
        never = Machine(2, [[0, 0], [1, 1]], [3, 4])
        self.assertEqual(shares(never).limits, (((3, (1, 1)),),))
        # The number of digits, even or odd: n with L digits are half of those below 2 ** L.
        two = shares(ring(2, 2))
        self.assertEqual(two.period, 2)
        self.assertEqual(two.limits, (((0, (2, 3)), (1, (1, 3))), ((0, (1, 3)), (1, (2, 3)))))
        # A part of the numbers goes to a place of its own: 2 of 3 at first, then the others.
        parted = Machine(3, [[0, 1, 2], [1, 1, 1], [2, 2, 2]], [0, 1, 2])
        self.assertEqual(shares(parted).limits, (((0, (0, 1)), (1, (1, 2)), (2, (1, 2))),))

    def test_periods(self):
        for length in (1, 2, 3, 5, 6, 7):
            told = self.check_shares(ring(2, length))
            self.assertEqual(told.period, length)

    def test_sixty_and_more(self):
        # With the first digit, n goes to one of several rings; the periods of all count together.
        self.assertEqual(shares(many_rings(5, (3, 4, 5))).period, 60)
        self.assertEqual(shares(many_rings(5, (4, 5))).period, 20)
        with self.assertRaises(TooMany) as caught:
            shares(many_rings(5, (7, 9)))
        self.assertEqual((caught.exception.what, caught.exception.limit), ("period", 60))
        self.assertRaises(TooMany, shares, many_rings(5, (2, 3, 11)))

    def test_rounds_that_values_do_not_show(self):
        # A round of eleven states and one of seven with equal values: only one limit.
        hidden = many_rings(5, (7, 9), False)
        self.assertEqual(shares(hidden).period, 1)


def many_rings(p, lengths, is_shown=True):
    """A machine whose lowest digit that is not 0 tells into which ring n goes.

    A ring tells whether it came to its first state at the last digit that is not 0.
    """
    rows, worths = [[0] * p], [0]
    for at, length in enumerate(lengths):
        begin = len(rows)
        rows[0][at + 1] = begin
        for state in range(length):
            for kept in (0, 1):
                further = (state + 1) % length
                rows.append([begin + 2 * further + kept] + [begin + 2 * further + int(further == 0)] * (p - 1))
                worths.append(kept + 1 if is_shown else 1)
    # A digit for which there is no ring leads to the first one.
    rows[0] = [0] + [to if to else 1 for to in rows[0][1:]]
    return Machine(p, rows, worths)


class Periods(unittest.TestCase):

    def test_against_plain_values(self):
        found = 0
        for chance, machine in random_machines(504, 150):
            many = machine.p ** 4
            values = values_of(machine, many + 70)
            for length in (1, 2, 3, machine.p, 60):
                start = chance.randrange(60)
                plain = next((n for n in range(start, many) if values[n] != values[n + length]), None)
                told = breaks_period(machine, length, start)
                if plain is None:
                    self.assertTrue(told is None or told >= many)
                else:
                    self.assertEqual(told, plain)
            told = period_of(machine, 12)
            if told is None:
                self.assertTrue(all(breaks_period(machine, length, FAR) is not None for length in range(1, 13)))
                continue
            found += 1
            self.assertIs(type(told), Period)
            self.assertIsNone(breaks_period(machine, told.length, told.start))
            if told.start > 0:
                self.assertEqual(breaks_period(machine, told.length, told.start - 1), told.start - 1)
            for length in range(1, told.length):
                self.assertIsNotNone(breaks_period(machine, length, FAR))
        self.assertGreater(found, 20)

    def test_known_ones(self):
        for m, text, start, length in ((2, "sum[1]", 0, 2), (4, "sum[1]", 0, 4), (9, "sum[sum[1]]", 0, 9),
                                       (8, "sum[sum[1]]", 0, 16), (27, "7", 0, 1), (25, "sum[1]", 0, 25),
                                       (3, "walk[2]", 0, 2), (2, "walk[x; x^-8]", 9, 1)):
            told = period_of(machine_of(Count(text), m), 60)
            self.assertEqual((told.start, told.length), (start, length))
        machine = machine_of(Count("sum[1]"), 9)
        self.assertIsNone(period_of(machine, 8))
        self.assertEqual(period_of(machine, 9).length, 9)
        self.assertIsNone(period_of(machine_of(Count("walk[x + x^-1]"), 3), 60))

    def test_late_ones(self):
        for places in (10, 40, 57):
            machine = machine_of(Count(f"walk[x; x^-{2 ** places}]"), 2)
            told = period_of(machine, 60)
            self.assertEqual((told.start, told.length), (2 ** places + 1, 1))
            self.assertEqual(breaks_period(machine, 60, 0), 2 ** places - 60)
            self.assertEqual(breaks_period(machine, 60, 2 ** places - 59), 2 ** places)
            self.assertIsNone(breaks_period(machine, 60, 2 ** places + 1))
        odd = Machine(2, [[0, 1], [1, 0]], [0, 1])
        for start in (10 ** 59, 10 ** 60, 2 ** 199 - 1, 3 * 2 ** 190):
            for length in (1, 2, 60):
                told = breaks_period(odd, length, start)
                self.assertGreaterEqual(told, start)
                plain = next(n for n in range(start, start + 500) if odd.at(n) != odd.at(n + length))
                self.assertEqual(told, plain)

    def check(self, error, told, call, *arguments):
        with self.assertRaises(error) as caught:
            call(*arguments)
        self.assertIs(type(caught.exception), error)
        self.assertEqual(tuple(vars(caught.exception).values()), told)

    def test_errors(self):
        machine = ring(3, 2)
        for value in NO_NUMBERS + (0,):
            self.check(BadNumber, ("most", value), period_of, machine, value)
            self.check(BadNumber, ("length", value), breaks_period, machine, value, None)
        for value in (61, 10 ** 60):
            self.check(TooLarge, ("most", value, 60), period_of, machine, value)
            self.check(TooLarge, ("length", value, 60), breaks_period, machine, value, None)
        for value in NO_NUMBERS:
            self.check(BadNumber, ("start", value), breaks_period, machine, 1, value)


class Whole(unittest.TestCase):

    def test_as_many(self):
        chance = random.Random(505)
        nones = late = 0
        for _ in range(300):
            p = chance.choice((2, 3, 5, 7))
            one, other = (random_machine(chance, p, chance.randrange(1, 5)) for _ in range(2))
            value, value2 = chance.randrange(3), chance.randrange(3)
            rows = numbers_plainly(one, value, 40), numbers_plainly(other, value2, 40)
            plain = next((at for at in range(40) if rows[0][at] != rows[1][at]), None)
            self.assertEqual(as_many(one, value, other, value2), plain)
            nones += plain is None
            late += plain is not None and plain > 1
        self.assertGreater(nones, 10)
        self.assertGreater(late, 10)
        odd = Machine(2, [[0, 1], [1, 0]], [0, 1])
        self.assertEqual(as_many(odd, 0, odd, 1), 0)
        self.assertIsNone(as_many(odd, 0, odd, 0))
        self.assertIsNone(as_many(odd, 7, odd, 8))
        # Those with 40 digits 1 or more come late.
        rows = [[i, min(i + 1, 40)] for i in range(41)]
        rare = Machine(2, rows, [0] * 40 + [1])
        self.assertEqual(as_many(rare, 1, odd, 2), 40)
        self.assertEqual(as_many(odd, 2, rare, 1), 40)
        with self.assertRaises(Unlike) as caught:
            as_many(odd, 0, ring(3, 1), 0)
        self.assertEqual(caught.exception.what, "p")

    def test_recurrence(self):
        lengths = set()
        for _, machine in random_machines(506, 250):
            for value in (0, 1, 2, 5):
                told = recurrence(machine, value)
                row = numbers_plainly(machine, value, 60)
                many = len(told)
                lengths.add(many)
                self.assertTrue(type(told) is tuple and all(type(number) is int for number in told))
                self.assertTrue(all(row[at + many] == sum(c * row[at + i] for i, c in enumerate(told))
                                    for at in range(60 - many)))
                self.assertEqual(many, rank_plainly(row))
        self.assertTrue({0, 1, 2, 3} <= lengths)

    def test_known_rules(self):
        self.assertEqual(recurrence(Machine(2, [[0, 1], [1, 0]], [0, 1]), 0), (0, 2))
        self.assertEqual(recurrence(Machine(2, [[0, 1], [1, 0]], [0, 1]), 1), (0, 2))
        self.assertEqual(recurrence(Machine(7, [[0] * 7], [4]), 4), (7,))
        self.assertEqual(recurrence(Machine(7, [[0] * 7], [4]), 5), ())
        self.assertEqual(recurrence(Machine(2, [[0, 1], [1, 1]], [0, 1]), 0), (1,))
        self.assertEqual(recurrence(Machine(2, [[0, 1], [1, 1]], [0, 1]), 1), (-2, 3))
        # No two digits 1 side by side: the numbers of Fibonacci.
        self.assertEqual(recurrence(Machine(2, [[0, 1], [2, 3], [2, 1], [3, 3]], [1, 1, 1, 0]), 1), (1, 1))
        # Only the number 0, only the number 1.
        self.assertEqual(recurrence(Machine(2, [[0, 1], [1, 2], [2, 2]], [0, 1, 0]), 1), (-1, 2))

    def test_sizes(self):
        begin = time.time()
        chance = random.Random(507)
        for p in (2, 3, 5, 7):
            for machine in (random_machine(chance, p, 60), deep(p)):
                period_of(machine, 60)
                breaks_period(machine, 60, FAR)
                shares(machine)
                nth(machine, 0, 10 ** 50)
                how_many(machine, 1, FAR)
                for value in (0, 1):
                    row = recurrence(machine, value)
                    told = numbers_plainly(machine, value, 130)
                    self.assertEqual(told[-1], sum(c * told[i - len(row) - 1] for i, c in enumerate(row)))
                as_many(machine, 0, machine, 1)
        self.assertLess(time.time() - begin, 30)


def deep(p):
    """A machine of 60 states with many that are left for good, and rings of seven and of five."""
    chance = random.Random(p)
    rows = [[state] + [chance.randrange(state, 36) for _ in range(p - 1)] for state in range(36)]
    worths = [0] * 36
    for length in (7, 5):
        begin = len(rows)
        for row in rows[:36]:
            if chance.random() < 0.5:
                row[chance.randrange(1, p)] = begin
        for state in range(length):
            for kept in (0, 1):
                further = (state + 1) % length
                rows.append([begin + 2 * further + kept] + [begin + 2 * further + int(further == 0)] * (p - 1))
                worths.append(kept)
    return Machine(p, rows, worths)


def rank_plainly(row):
    """How many of the rows that begin at one place after the other are needed to make all."""
    many = 12
    rows = [[Fraction(number) for number in row[at:at + many]] for at in range(many)]
    found = []
    for line in rows:
        for head, other in found:
            factor = line[head] / other[head]
            line = [a - factor * b for a, b in zip(line, other)]
        heads = [at for at in range(many) if line[at]]
        if heads:
            found.append((heads[0], line))
    return len(found)


if __name__ == "__main__":
    unittest.main()
