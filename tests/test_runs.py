"""[60], [61], [62] along the powers of the prime."""

import random
import time
import unittest

from plain_counts import MODULI, NO_MODULI, NO_NUMBERS, NO_ROWS
from restcounts.counts import Count
from restcounts.errors import BadNumber, BadRow, TooMany
from restcounts.moduli import number_of, prime_power
from restcounts.residuals import behind
from restcounts.runs import Along, Run, along_powers, along_words, run_of
from restcounts.tables import tables_of

TEXTS = ("walk[x+x^-1]", "walk[x+1+x^-1]", "sum[1]", "walk[x+x^-1; x^2-3]", "3", "0", "fold[walk[x+x^-1], 1]",
         "at[2,0: walk[x+x^-1]]", "walk[x+x^-1] * walk[x+1+x^-1]", "sum[sum[1]]", "walk[x; x^-7]", "walk[3]",
         "walk[x^2-x^-1+1; x+x^-2]", "walk[3]*sum[1]", "walk[x; x^-25]")
# Behind L digits 5 these go round modulo 7 after 684, and after more than 1,000.
ROUND_684 = "walk[3*x^8 + x^3 + 6*x^8 + 2*x^-1; x^7 + 1]"
ROUND_MORE = "walk[3*x^3 + 4*x^-1 + 3*x^6 + 6*x^8; x^7 + 1]"


def round_of(row):
    """The start and the period of a long row, the period at most a third of it."""
    for period in range(1, len(row) // 3 + 1):
        if row[-2 * period:-period] == row[-period:] and row[-3 * period:-2 * period] == row[-period:]:
            start = len(row) - period
            while start > 0 and row[start - 1] == row[start - 1 + period]:
                start -= 1
            if start + 2 * period < len(row):
                return start, period
    return None


class Powers(unittest.TestCase):

    def check(self, text, m, c, d, many=60):
        p, _ = prime_power(m)
        tables = tables_of(Count(text), m)
        told = along_powers(Count(text), m, c, d)
        self.assertIs(type(told), Along)
        self.assertIs(type(told.rests), tuple)
        self.assertEqual(len(told.rests), told.start + told.period)
        many = max(many, told.start + 3 * told.period + 5)
        rests = [tables.at(c * p ** at + d) for at in range(many)]
        self.assertEqual(list(told.rests), rests[:told.start + told.period])
        for at in range(told.start, many - told.period):
            self.assertEqual(rests[at], rests[at + told.period])
        for shorter in range(1, told.period):
            turn = rests[told.start:told.start + told.period]
            self.assertNotEqual(turn, turn[shorter:] + turn[:shorter])
        if told.start > 0:
            self.assertNotEqual(rests[told.start - 1], rests[told.start - 1 + told.period])
        return told.start, told.period

    def test_against_plain_rests(self):
        chance = random.Random(501)
        found = set()
        for m in MODULI:
            for text in TEXTS:
                for _ in range(3):
                    c = chance.choice((1, 2, 3, 999, chance.randrange(1, 1000)))
                    d = chance.choice((-c, -1, 0, 1, 999, chance.randrange(-c, 1000)))
                    found.add(self.check(text, m, c, d))
        self.assertGreater(len(found), 15)
        self.assertGreater(len({period for _, period in found}), 2)

    def test_at_the_bounds(self):
        for m in (16, 27, 25, 7):
            for c, d in ((999, -999), (999, 999), (1, -1), (1, 999), (1, 0), (999, 0), (2, -1), (500, -499)):
                self.check("walk[x+1+x^-1; x+3]", m, c, d)
                self.check("sum[1]", m, c, d)

    def test_known_ones(self):
        told = along_powers(Count("sum[1]"), 27, 5, -5)
        self.assertEqual((told.start, told.period, told.rests), (3, 1, (0, 10, 13, 22)))
        told = along_powers(Count("walk[2]"), 7, 1, 0)
        self.assertEqual((told.start, told.period, told.rests), (0, 1, (2,)))
        told = along_powers(Count("walk[x; x^-25]"), 5, 1, 0)
        self.assertEqual((told.start, told.period, told.rests), (3, 1, (0, 0, 1, 0)))
        told = along_powers(Count("walk[x; x^-24]"), 5, 1, -1)
        self.assertEqual((told.start, told.period, told.rests), (3, 1, (0, 0, 1, 0)))

    def test_periods_above_1(self):
        periods = {self.check(text, 7, c, d)[1] for text in (
            "walk[2*x^3+x^-1+4; x^7+1]", "walk[4*x^8+1*x^9+2*x^-9;x^7+1]", "walk[3*x^4+3*x^-4+6*x^5;x^7+1]")
            for c in (1, 4) for d in (-1, 3)}
        self.assertTrue({1} < periods)

    def test_errors(self):
        count = Count("1")
        for value in NO_MODULI:
            with self.assertRaises(BadNumber) as caught:
                along_powers(count, value, 0, None)
            self.assertEqual((caught.exception.what, caught.exception.number), ("modulus", value))
        for value in NO_NUMBERS + (0, 1000, 10 ** 60):
            with self.assertRaises(BadNumber) as caught:
                along_powers(count, 4, value, None)
            self.assertEqual((caught.exception.what, caught.exception.number), ("c", value))
        for value in (-6, 1000, -10 ** 60, 10 ** 60, True, None, "1", 1.0, (1,)):
            with self.assertRaises(BadNumber) as caught:
                along_powers(count, 4, 5, value)
            self.assertEqual((caught.exception.what, caught.exception.number), ("d", value))


class Words(unittest.TestCase):

    def check(self, text, m, low, middle, high, many=40):
        p, _ = prime_power(m)
        tables = tables_of(Count(text), m)
        told = along_words(Count(text), m, low, middle, high)
        self.assertIs(type(told), Along)
        self.assertEqual(len(told.rests), told.start + told.period)
        low, middle, high = tuple(low), tuple(middle), tuple(high)
        many = max(many, told.start + 3 * told.period + 3)
        rests = [tables.at(number_of(low + middle * at + high, p)) for at in range(many)]
        self.assertEqual(list(told.rests), rests[:told.start + told.period])
        self.assertEqual(round_of(rests + rests[-told.period:] * 6 * (told.start + 40)), (told.start, told.period))
        return told.start, told.period

    def test_against_plain_rests(self):
        chance = random.Random(502)
        found = set()
        for m in MODULI:
            p, _ = prime_power(m)

            def word(most):
                return [chance.randrange(p) for _ in range(chance.randrange(most + 1))]
            for text in TEXTS:
                found.add(self.check(text, m, word(3), tuple(word(2)), word(3)))
                found.add(self.check(text, m, word(3), (0,), word(2) + [0, 0]))
        self.assertGreater(len(found), 8)

    def test_empty_words(self):
        for m in MODULI:
            for text in TEXTS:
                self.assertEqual(self.check(text, m, (1, 0), (), (1,)), (0, 1))
                self.assertEqual(self.check(text, m, (), (), ()), (0, 1))
                self.check(text, m, (), (1,), ())
                self.check(text, m, (), (0, 1), (1,))
                self.assertEqual(self.check(text, m, (1, 1), (0,), ()), (0, 1))

    def test_long_words(self):
        chance = random.Random(503)
        for m in MODULI:
            p, _ = prime_power(m)
            low, middle, high = [[chance.randrange(p) for _ in range(100)] for _ in range(3)]
            self.check("walk[x+1+x^-1; x+2]", m, low, middle, high, 8)
            self.check("sum[sum[1]]", m, low, middle, high, 8)

    def test_zeros_at_the_end(self):
        one = along_words(Count("sum[1]"), 9, (1,), (1, 1, 0), (2,))
        other = along_words(Count("sum[1]"), 9, (1,), (1, 1, 0), (2, 0, 0, 0))
        self.assertEqual(vars(one), vars(other))

    def test_rows_that_come_back_late(self):
        self.assertEqual(self.check(ROUND_684, 7, (), (5,), (1,), 10)[1] % 2, 0)
        with self.assertRaises(TooMany) as caught:
            along_words(Count(ROUND_MORE), 7, (), (5,), (1,))
        self.assertEqual((caught.exception.what, caught.exception.limit), ("period", 1000))
        tables = tables_of(Count(ROUND_MORE), 7)
        rests = [tables.at(number_of((5,) * at + (1,), 7)) for at in range(1100)]
        self.assertTrue(all(rests[50:1100 - period] != rests[50 + period:] for period in range(1, 1001)))

    def test_errors(self):
        count = Count("1")
        for value in NO_MODULI:
            with self.assertRaises(BadNumber) as caught:
                along_words(count, value, 0, None, None)
            self.assertEqual((caught.exception.what, caught.exception.number), ("modulus", value))
        for value in NO_ROWS + ((3,), [-1], (0,) * 101, [1] * 101):
            for words in ((value, None, None), ((0,) * 100, value, None), ((), [2] * 100, value)):
                with self.assertRaises(BadRow) as caught:
                    along_words(count, 9, *words)
                self.assertEqual(caught.exception.row, value)


class Runs(unittest.TestCase):

    def check(self, text, m, digit):
        p, _ = prime_power(m)
        told = run_of(Count(text), m, digit)
        self.assertIs(type(told), Run)
        one = tables_of(Count(text), m)
        rows = []
        for _ in range(told.start + 2 * told.period + 2):
            rows.append(tuple(one.at(n) for n in list(range(40)) + [p ** 20]))
            one = behind(one, 1, digit)
        for at in range(told.start, len(rows) - told.period):
            self.assertEqual(rows[at], rows[at + told.period])
        self.assertEqual(len(set(rows)), told.start + told.period)
        return told.start, told.period

    def test_each_digit(self):
        found = set()
        for m in MODULI:
            p, _ = prime_power(m)
            for text in TEXTS[::2]:
                for digit in range(p):
                    found.add(self.check(text, m, digit))
        self.assertGreater(len(found), 8)

    def test_walks_without_ends(self):
        for m in MODULI:
            _, k = prime_power(m)
            for text in ("walk[x+x^-1]", "walk[x+1+x^-1]", "walk[3*x+2+x^-2]", "walk[x+y+x^-1*y^-1]", "walk[5]"):
                told = run_of(Count(text), m, 0)
                self.assertEqual(told.period, 1)
                self.assertLessEqual(told.start, k - 1)

    def test_long_rounds(self):
        self.assertEqual(vars(run_of(Count(ROUND_684), 7, 5)), {"start": 1, "period": 684})
        with self.assertRaises(TooMany) as caught:
            run_of(Count(ROUND_MORE), 7, 5)
        self.assertEqual((caught.exception.what, caught.exception.limit), ("period", 1000))

    def test_errors(self):
        for value in NO_MODULI:
            with self.assertRaises(BadNumber) as caught:
                run_of(Count("1"), value, None)
            self.assertEqual((caught.exception.what, caught.exception.number), ("modulus", value))
        for m in MODULI:
            p, _ = prime_power(m)
            for value in NO_NUMBERS + (p, 10 ** 60):
                with self.assertRaises(BadNumber) as caught:
                    run_of(Count("1"), m, value)
                self.assertEqual((caught.exception.what, caught.exception.number), ("digit", value))

    def test_greatest_sizes(self):
        begin = time.time()
        for text, m in (("walk[x^10+3*x^7+x^-9+1; x^32+x^5] * walk[x^2-x^-1]", 7),
                        ("fold[walk[x^2+x^-1+1; x^32+x^-31], walk[x-x^-1+2; x^5]]", 25),
                        ("fold[walk[x+3*x^-1;x^31], sum[walk[x-2*x^-1;x]]]", 16)):
            p, _ = prime_power(m)
            count = Count(text)
            for call, more in ((along_powers, (999, -999)), (along_powers, (998, 999)), (run_of, (p - 1,)),
                               (along_words, ((1,) * 100, (1, 0) * 50, (1,) * 100))):
                try:
                    call(count, m, *more)
                except TooMany:
                    pass
        self.assertLess(time.time() - begin, 20)


if __name__ == "__main__":
    unittest.main()
