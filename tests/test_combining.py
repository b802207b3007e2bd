"""[25] tables put together."""

import random
import time
import unittest

from plain_counts import MODULI, NO_NUMBERS, random_parts, words
from restcounts.counts import Count
from restcounts.errors import BadNumber, Unlike
from restcounts.moduli import prime_power
from restcounts.tables import (
    Tables, along_first, folded, is_steady, jumped, plus, scaled, summed, tables_of, times)

STEADY = ("walk[x+x^-1]", "walk[x+1+x^-1]", "sum[1]", "3", "0", "walk[2*x-x^-1+1; x+3]", "walk[0]", "walk[x; x^-5]")


def random_tables(chance, m, most=3):
    return Tables(m, *random_parts(chance, m, chance.randrange(most + 1)))


def steady_tables(chance, m, most):
    """Steady tables of at most so many rows."""
    while True:
        tables = tables_of(Count(chance.choice(STEADY)), m)
        if tables.size <= most:
            return tables


class AtEachWord(unittest.TestCase):

    def pairs(self):
        chance = random.Random(90)
        for m in MODULI:
            for _ in range(12):
                yield chance, m, random_tables(chance, m), random_tables(chance, m)

    def check(self, m, told, value):
        p, _ = prime_power(m)
        self.assertIs(type(told), Tables)
        self.assertEqual(told.m, m)
        for word in words(p, 6 if p == 2 else 3 if p < 7 else 2):
            self.assertEqual(told.along(word), value(word) % m)

    def test_plus_and_times(self):
        for _, m, one, other in self.pairs():
            self.check(m, plus(one, other), lambda word: one.along(word) + other.along(word))
            self.check(m, times(one, other), lambda word: one.along(word) * other.along(word))
            self.check(m, plus(one, one), lambda word: 2 * one.along(word))

    def test_scaled(self):
        for chance, m, one, _ in self.pairs():
            for number in (0, 1, -1, chance.randrange(m), -10 ** 60 + 3):
                self.check(m, scaled(one, number), lambda word: number * one.along(word))

    def test_along_first(self):
        for _, m, one, _ in self.pairs():
            for digit in range(prime_power(m)[0]):
                self.check(m, along_first(one, digit), lambda word: one.along((digit, *word)))

    def test_what_is_handed_in_stays_as_it_was(self):
        for _, m, one, other in self.pairs():
            before = [(t.m, t.first, t.moves, t.ends, t.size) for t in (one, other)]
            plus(one, other), times(one, other), scaled(one, 2), along_first(one, 0)
            summed(one), folded(one, other), jumped(one, 3, 2)
            self.assertEqual([(t.m, t.first, t.moves, t.ends, t.size) for t in (one, other)], before)

    def test_equal_calls_tell_the_same(self):
        one, other = tables_of(Count(STEADY[0]), 9), tables_of(Count(STEADY[1]), 9)
        for action in (plus, times, folded):
            self.assertEqual(action(one, other).moves, action(one, other).moves)


class Steady(unittest.TestCase):

    def check(self, told, value, many=60):
        self.assertIs(type(told), Tables)
        self.assertIs(is_steady(told), True)
        self.assertEqual([told.at(n) for n in range(many)], [value(n) % told.m for n in range(many)])

    def test_summed(self):
        chance = random.Random(91)
        for m in MODULI:
            for _ in range(6):
                one = steady_tables(chance, m, 20)
                rests = [one.at(n) for n in range(60)]
                self.check(summed(one), lambda n: sum(rests[:n]))

    def test_folded(self):
        chance = random.Random(92)
        for m in MODULI:
            for _ in range(6):
                one, other = steady_tables(chance, m, 10), steady_tables(chance, m, 10)
                rests = [[t.at(n) for n in range(60)] for t in (one, other)]
                self.check(folded(one, other), lambda n: sum(rests[0][i] * rests[1][n - i] for i in range(n + 1)))

    def test_jumped(self):
        chance = random.Random(93)
        for m in MODULI:
            for c, d in ((1, 0), (1, 1), (2, 0), (3, 60), (1, 59), (20, 7), (chance.randrange(1, 21), 60)):
                one = steady_tables(chance, m, 20)
                told = jumped(one, c, d)
                self.check(told, lambda n: one.at(c * n + d))
                n = chance.randrange(10 ** 60)
                self.assertEqual(told.at(n), one.at(c * n + d))

    def test_steady_ones_of_steady_ones(self):
        chance = random.Random(94)
        for m in MODULI:
            one, other = steady_tables(chance, m, 6), steady_tables(chance, m, 6)
            for told in (plus(one, other), times(one, other), scaled(one, 5), along_first(one, 1)):
                self.assertIs(is_steady(told), True)
            self.check(summed(summed(one)), lambda n: sum((n - 1 - i) * one.at(i) for i in range(n)), 20)
            self.check(jumped(jumped(one, 2, 1), 3, 4), lambda n: one.at(6 * n + 9), 20)

    def test_tables_of_size_zero(self):
        for m in MODULI:
            p, _ = prime_power(m)
            none, one = Tables(m, (), ((),) * p, ()), tables_of(Count("sum[1]"), m)
            for told in (times(none, one), times(one, none), folded(none, one), folded(one, none), summed(none),
                         jumped(none, 5, 3), along_first(none, 0), scaled(none, 3), plus(none, none)):
                self.check(told, lambda n: 0, 10)
            self.check(plus(none, one), lambda n: n)
            self.check(plus(one, none), lambda n: n)

    def test_greatest_sizes_end_in_seconds(self):
        begin = time.monotonic()
        for m, text, text2 in (
                (7, "walk[x^10 + 2*x^-10 + x^7 + 1]", "walk[x^5 - x^-5 + 3*x + 1]"),
                (5, "walk[x^10 + 2*x^-10 + x^7 + 1]", "walk[x^5 - x^-5 + 3*x + 1]"),
                (2, "walk[x^10 + x^-10 + x^7 + 1]", "walk[x^5 + x^-5 + x + 1]"),
                (4, "walk[x^5 + 2*x^-5 + x^3 + 1]", "walk[x^2 - x^-2 + 3*x + 1]"),
                (27, "walk[x + 2*x^-1; x^12 + 1]", "walk[x + x^-1]")):
            one, other = tables_of(Count(text), m), tables_of(Count(text2), m)
            told = jumped(one, 20, 60)
            self.assertIs(is_steady(told), True)
            self.assertEqual(told.at(10 ** 59), one.at(20 * 10 ** 59 + 60))
            self.assertEqual([summed(one).at(n) for n in (0, 1, 2)], [0, one.at(0), (one.at(0) + one.at(1)) % m])
            told = folded(other, other)
            self.assertEqual([told.at(n) for n in range(20)],
                             [sum(other.at(i) * other.at(n - i) for i in range(n + 1)) % m for n in range(20)])
            self.assertEqual(times(other, other).at(10 ** 60), other.at(10 ** 60) ** 2 % m)
        self.assertLess(time.monotonic() - begin, 60)


class Errors(unittest.TestCase):

    def test_unlike_moduli(self):
        one, other, third = [tables_of(Count("sum[1]"), m) for m in (2, 4, 3)]
        for action in (plus, times, folded):
            for pair in ((one, other), (other, one), (one, third)):
                with self.assertRaises(Unlike) as caught:
                    action(*pair)
                self.assertEqual(caught.exception.what, "modulus")

    def test_numbers(self):
        for m in MODULI:
            p, _ = prime_power(m)
            one = tables_of(Count("sum[1]"), m)
            for digit in NO_NUMBERS + (p, p + 1, 10 ** 60):
                self.bad_number("digit", digit, lambda: along_first(one, digit))
            for c in NO_NUMBERS + (0,):
                for d in (0, -1, None):
                    self.bad_number("c", c, lambda: jumped(one, c, d))
            for d in NO_NUMBERS:
                self.bad_number("d", d, lambda: jumped(one, 1, d))

    def bad_number(self, what, number, action):
        with self.assertRaises(BadNumber) as caught:
            action()
        self.assertEqual(caught.exception.what, what)
        self.assertIs(caught.exception.number, number)


if __name__ == "__main__":
    unittest.main()
