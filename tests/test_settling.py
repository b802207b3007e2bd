"""[51], [52], [53], [54], [55] deeper rules for all n."""

import random
import time
import unittest
from itertools import product

from plain_counts import MODULI, NO_MODULI, NO_NUMBERS, word_of
from restcounts.counts import Count
from restcounts.errors import BadNumber, TooLarge, TooMany
from restcounts.lots import Lot
from restcounts.moduli import prime_power
from restcounts.relating import relations
from restcounts.residuals import fewest, orders
from restcounts.settling import (
    Round, decides, deciders, likenesses, order_free, residual_relations, settles)
from restcounts.tables import Tables, is_steady, rest_at, tables_of

TEXTS = ("walk[x+x^-1]", "walk[x+1+x^-1]", "walk[2*x-x^-1+1]", "sum[1]", "walk[x+x^-1; x^2-3]", "3", "0",
         "fold[walk[x+x^-1], 1]", "at[2,0: walk[x+x^-1]]", "walk[x+x^-1] * walk[x+1+x^-1]", "2 * walk[x+x^-1+1]",
         "next[walk[x+1+x^-1]]", "sum[sum[1]]", "walk[x; x^-7]", "walk[3]", "walk[x^2-x^-1+1; x+x^-2]")
LONG = "fold[walk[2*x^2+3*x^-1+1*x^-2], walk[1*x^-2+4*x^1]]"
SHORT = "fold[walk[x+x^-1+1], walk[x^2+x^-1]]"
CENTRAL = "at[2, 0: walk[x + x^-1]]"


def residuals_of(tables, m, j, points):
    """The rows of the values of the residuals up to j at some points, in their order."""
    p, _ = prime_power(m)
    return [tuple(tables.at(p ** i * n + r) for n in points) for i in range(j + 1) for r in range(p ** i)]


def decide_plainly(tables, m, numbers):
    """Whether mixtures of many residuals are told apart by these numbers alone."""
    p, _ = prime_power(m)
    j = {2: 4, 3: 3, 5: 2, 7: 2}[p]
    points = list(range(60)) + list(numbers)
    rows = residuals_of(tables, m, j, points)
    all_of_them = Lot(m, len(points), rows)
    short = Lot(m, len(numbers), [row[60:] for row in rows])
    return all_of_them.size == short.size


class Deciders(unittest.TestCase):

    def test_as_few_as_there_are_orders(self):
        for m in MODULI:
            for text in TEXTS:
                count = Count(text)
                tables = tables_of(count, m)
                told = deciders(count, m)
                self.assertIs(type(told), tuple)
                self.assertEqual(list(told), sorted(set(told)))
                self.assertTrue(all(type(n) is int and n >= 0 for n in told))
                self.assertEqual(len(told), len(orders(tables)))
                self.assertEqual(len(told), fewest(count, m))
                self.assertIs(decides(count, m, told), True)
                self.assertTrue(decide_plainly(tables, m, told), (text, m, told))
                self.assertIs(decides(count, m, told + (0, 1, 10 ** 60)), True)
                for at in range(len(told)):
                    self.assertIs(decides(count, m, told[:at] + told[at + 1:]), False)
                self.assertEqual(deciders(count, m), told)

    def test_decides_against_plain_rows(self):
        chance = random.Random(301)
        for _ in range(150):
            m, text = chance.choice(MODULI), chance.choice(TEXTS)
            numbers = tuple(chance.randrange(chance.choice((4, 12, 40))) for _ in range(chance.randrange(5)))
            self.assertEqual(decides(Count(text), m, numbers),
                             decide_plainly(tables_of(Count(text), m), m, numbers), (text, m, numbers))

    def test_no_numbers(self):
        self.assertIs(decides(Count("0"), 9, ()), True)
        self.assertIs(decides(Count("9"), 9, ()), True)
        self.assertIs(decides(Count("3"), 9, ()), False)
        self.assertEqual(deciders(Count("0"), 16), ())
        self.assertIs(decides(Count("3"), 9, [5]), True)
        self.assertIs(decides(Count("walk[x; x^-7]"), 5, (0, 1, 2, 3)), False)

    def test_a_number_of_many_digits(self):
        count = Count("walk[x+x^-1]")
        self.assertEqual(decides(count, 2, (2 ** 200,)), decides(count, 2, (1,)))
        self.assertIs(decides(Count("sum[1]"), 5, (5 ** 90 + 1, 5 ** 90)), True)
        self.assertIs(decides(Count("sum[1]"), 5, (5 ** 90 + 1, 5 ** 91 + 1)), False)


class OrderFree(unittest.TestCase):

    def test_free_counts(self):
        for m in MODULI:
            p, _ = prime_power(m)
            self.assertIsNone(order_free(Count("0"), m))
            self.assertIsNone(order_free(Count("4"), m))
            self.assertIsNone(order_free(Count(CENTRAL), p))
            self.assertIsNone(order_free(Count("walk[x+1+x^-1]"), p))

    def test_pairs_or_none(self):
        free = 0
        for m in MODULI:
            p, _ = prime_power(m)
            for text in TEXTS:
                count = Count(text)
                told = order_free(count, m)
                if told is None:
                    free += 1
                    rests = {}
                    for n in range(min(p ** 5, 1500)):
                        key = tuple(sorted(d for d in word_of(n, p) if d))
                        self.assertEqual(rests.setdefault(key, rest_at(count, n, m)), rest_at(count, n, m))
                else:
                    self.assertIs(type(told), tuple)
                    n, n2 = told
                    self.assertEqual(sorted(d for d in word_of(n, p) if d), sorted(d for d in word_of(n2, p) if d))
                    self.assertNotEqual(rest_at(count, n, m), rest_at(count, n2, m))
                self.assertEqual(order_free(count, m), told)
        self.assertTrue(10 < free < 150)
        self.assertIsNotNone(order_free(Count("sum[1]"), 4))


class Settling(unittest.TestCase):

    def check(self, text, m, many=25):
        p, _ = prime_power(m)
        told = settles(Count(text), m)
        self.assertIs(type(told), Round)
        self.assertIs(type(told.tables), tuple)
        self.assertEqual(len(told.tables), told.length)
        tables = tables_of(Count(text), m)
        points = list(range(many)) + [p ** 30 + 5]
        rows = [tuple(tables.at(p ** j * n) for n in points) for j in range(told.start + 2 * told.length + 3)]
        for at, one in enumerate(told.tables):
            self.assertIs(type(one), Tables)
            self.assertEqual(one.m, m)
            self.assertTrue(is_steady(one))
            self.assertEqual(tuple(one.at(n) for n in points), rows[told.start + at])
        for at in range(told.start, len(rows) - told.length):
            self.assertEqual(rows[at], rows[at + told.length])
        for shorter in range(1, told.length):
            self.assertNotEqual(rows[told.start], rows[told.start + shorter])
        if told.start > 0:
            self.assertNotEqual(rows[told.start - 1], rows[told.start - 1 + told.length])
        return told.start, told.length

    def test_all_counts(self):
        found = {self.check(text, m) for m in MODULI for text in TEXTS}
        self.assertTrue({(0, 1), (1, 1), (2, 1)} <= found)

    def test_at_once_late_and_round(self):
        self.assertEqual(self.check("1", 8), (0, 1))
        self.assertEqual(self.check(CENTRAL, 5), (0, 1))
        self.assertEqual(self.check("sum[1]", 16), (4, 1))
        self.assertEqual(self.check("sum[1] * sum[1] * sum[1]", 16), (2, 1))
        self.assertEqual(self.check("sum[1] + sum[sum[1]]", 27)[1], 1)
        self.assertEqual(self.check("walk[3*x;x^-25]", 5, 60), (3, 1))

    def test_rounds_of_a_length_above_1(self):
        self.assertEqual(self.check(LONG, 5), (0, 124))
        self.assertEqual(self.check(SHORT, 5), (0, 8))
        self.assertEqual(self.check(SHORT, 25), (1, 40))
        self.assertEqual(self.check("fold[walk[2], walk[3]]", 7), (0, 1))

    def test_too_long(self):
        count = Count(f"{LONG} + {SHORT}")
        with self.assertRaises(TooMany) as caught:
            settles(count, 5)
        self.assertEqual((caught.exception.what, caught.exception.limit), ("length", 200))
        # Both rounds come back together only after 248 residuals.
        one, other = settles(Count(LONG), 5), settles(Count(SHORT), 5)
        both = [tuple((one.tables[j % 124].at(n), other.tables[j % 8].at(n)) for n in range(9)) for j in range(200)]
        self.assertEqual(len(set(both)), 200)

    def test_errors(self):
        for value in NO_MODULI:
            for call in (settles, deciders, order_free):
                with self.assertRaises(BadNumber) as caught:
                    call(Count("1"), value)
                self.assertEqual((caught.exception.what, caught.exception.number), ("modulus", value))
            for call in (decides, residual_relations, likenesses):
                with self.assertRaises(BadNumber) as caught:
                    call(Count("1"), value, None)
                self.assertEqual((caught.exception.what, caught.exception.number), ("modulus", value))


class Residuals(unittest.TestCase):

    def test_against_relations_of_counts(self):
        for m in (2, 4, 3, 9, 5):
            p, _ = prime_power(m)
            for text in TEXTS:
                counts = [Count(text)] + [Count(f"at[{p}, {r}: {text}]") for r in range(p)]
                self.assertEqual(residual_relations(Count(text), m, 1), relations(tuple(counts), m))
                self.assertEqual(residual_relations(Count(text), m, 0), relations((Count(text),), m))
        counts = [Count("at[%d, %d: walk[x+1+x^-1]]" % (c, r)) for c in (1, 2, 4) for r in range(c)]
        self.assertEqual(residual_relations(Count("walk[x+1+x^-1]"), 8, 2), relations(tuple(counts), 8))

    def test_rows_against_plain_rests(self):
        for m in MODULI:
            p, _ = prime_power(m)
            most = {2: 7, 3: 5, 5: 3, 7: 3}[p]
            for text in TEXTS[::4]:
                count = Count(text)
                for j in (0, 1, 2, most):
                    told = residual_relations(count, m, j)
                    places = sum(p ** i for i in range(j + 1))
                    self.assertEqual((told.m, told.width), (m, places))
                    residuals = residuals_of(tables_of(count, m), m, j, range(6))
                    for row in told.rows:
                        for at in range(6):
                            self.assertEqual(sum(a * b[at] for a, b in zip(row, residuals)) % m, 0)
                    if places < 60:
                        many = residuals_of(tables_of(count, m), m, j, range(60))
                        values = Lot(m, places, list(zip(*many)))
                        self.assertEqual(told.size * values.size, m ** places)

    def test_errors(self):
        for m in MODULI:
            p, _ = prime_power(m)
            most = {2: 7, 3: 5, 5: 3, 7: 3}[p]
            for value in NO_NUMBERS:
                with self.assertRaises(BadNumber) as caught:
                    residual_relations(Count("1"), m, value)
                self.assertEqual((caught.exception.what, caught.exception.number), ("j", value))
            for j in (most + 1, most + 2, 1000, 10 ** 60):
                with self.assertRaises(TooMany) as caught:
                    residual_relations(Count("1"), m, j)
                self.assertEqual((caught.exception.what, caught.exception.limit), ("places", 400))
            self.assertEqual(residual_relations(Count("1"), m, most).width,
                             sum(p ** i for i in range(most + 1)))


class Likenesses(unittest.TestCase):

    def plainly(self, text, m, most):
        p, _ = prime_power(m)
        tables = tables_of(Count(text), m)
        points = list(range(40)) + [p ** 40 + 3]
        known = {}

        def at(n):
            return known[n] if n in known else known.setdefault(n, tables.at(n))
        values = [at(n) for n in points]
        found = []
        for c in range(2, most + 1):
            for d in range(c):
                further = [at(c * n + d) for n in points]
                fitting = [u for u in range(m) if u % p and all((u * a - b) % m == 0
                                                                for a, b in zip(values, further))]
                found += [(c, d, u) for u in fitting[:1]]
        return tuple(found)

    def test_against_plain_rests(self):
        texts = TEXTS + (CENTRAL, "sum[1]*sum[1]", "1 + 2*sum[1]", "walk[2*x+1+2*x^-1]", "walk[x]", "1 - walk[x]")
        for m in MODULI:
            for text in texts:
                told = likenesses(Count(text), m, 6)
                self.assertEqual(told, self.plainly(text, m, 6), (text, m))
                self.assertIs(type(told), tuple)

    def test_powers_and_middle_numbers(self):
        square = "sum[1] * sum[1]"
        self.assertEqual(likenesses(Count(square), 7, 12),
                         tuple((c, d, c * c % 7) for c in range(2, 13) if c != 7 for d in range(0, c, 7)))
        self.assertEqual(likenesses(Count(CENTRAL), 3, 12),
                         ((3, 0, 1), (3, 1, 2), (9, 0, 1), (9, 1, 2), (9, 3, 2), (9, 4, 1)))
        self.assertEqual(likenesses(Count("sum[1] + 1"), 5, 4), ((2, 1, 2), (3, 2, 3), (4, 3, 4)))
        self.assertEqual(likenesses(Count("0"), 9, 2), ((2, 0, 1), (2, 1, 1)))
        self.assertEqual(likenesses(Count("3"), 9, 2), ((2, 0, 1), (2, 1, 1)))
        self.assertEqual(likenesses(Count("walk[x+x^-1+1]*sum[1]+1"), 5, 2), ())

    def test_each_most(self):
        whole = likenesses(Count(CENTRAL), 2, 12)
        self.assertEqual(whole, self.plainly(CENTRAL, 2, 12))
        for most in range(2, 13):
            self.assertEqual(likenesses(Count(CENTRAL), 2, most), tuple(told for told in whole if told[0] <= most))

    def test_errors(self):
        for value in NO_NUMBERS + (0, 1):
            with self.assertRaises(BadNumber) as caught:
                likenesses(Count("1"), 4, value)
            self.assertEqual((caught.exception.what, caught.exception.number), ("most", value))
        for value in (13, 10 ** 60):
            with self.assertRaises(TooLarge) as caught:
                likenesses(Count("1"), 4, value)
            error = caught.exception
            self.assertEqual((error.what, error.number, error.limit), ("most", value, 12))


class Sizes(unittest.TestCase):

    def test_greatest_sizes_end_in_seconds(self):
        for text, m in (("walk[x^10+3*x^7+x^-9+1; x^32+x^5] * walk[x^2-x^-1]", 7),
                        ("fold[walk[x^2+x^-1+1; x^32+x^-31], walk[x-x^-1+2; x^5]]", 25),
                        ("fold[walk[x+3*x^-1;x^31], sum[walk[x-2*x^-1;x]]]", 16)):
            count = Count(text)
            p, _ = prime_power(m)
            begin = time.time()
            self.assertTrue(decides(count, m, deciders(count, m)))
            order_free(count, m)
            settles(count, m)
            residual_relations(count, m, {2: 7, 5: 3, 7: 3}[p])
            likenesses(count, m, 12)
            self.assertLess(time.time() - begin, 20)


if __name__ == "__main__":
    unittest.main()
