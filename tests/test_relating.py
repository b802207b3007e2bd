"""[39], [40], [41], [42], [43], [44], [45], [46] relations and rules for all n."""

import random
import time
import unittest
from itertools import product

from plain_counts import MODULI, NO_MODULI, NO_NUMBERS
from restcounts.counts import Count
from restcounts.errors import BadNumber, TooMany
from restcounts.lots import Lot
from restcounts.moduli import prime_power
from restcounts.relating import (
    enough, lasting, lucas, made_of, relations, rule, values_lot, zero_classes)
from restcounts.tables import rest_at, tables_of

# One letter at most, so that many first rests can be had in a short time.
TEXTS = ("walk[x+x^-1]", "walk[x+1+x^-1]", "walk[2*x-x^-1+1]", "sum[1]", "walk[x+x^-1; x^2-3]", "3", "0",
         "fold[walk[x+x^-1], 1]", "at[2,1: walk[x+1+x^-1]]", "walk[x+x^-1] * walk[x+1+x^-1]", "2 * walk[x+x^-1+1]",
         "next[walk[x+1+x^-1]]", "sum[sum[1]]", "walk[x; x^-7]", "walk[3]")
MANY = 150


def rests_of(text, m, many=MANY):
    return Count(text).first_rests(many, m)


def rows_of(texts, m, many=MANY):
    return list(zip(*[rests_of(text, m, many) for text in texts]))


def counts_of(texts):
    return tuple(Count(text) for text in texts)


def all_relations(m, width, rows):
    """The lot of all rows that make the rest 0 with each of these rows, by a plain list."""
    return Lot(m, width, [row for row in product(range(m), repeat=width)
                          if not any(sum(a * b for a, b in zip(row, other)) % m for other in rows)])


def many_texts(seed, many):
    chance = random.Random(seed)
    for _ in range(many):
        yield chance, chance.choice(MODULI), [chance.choice(TEXTS) for _ in range(chance.randrange(1, 5))]


class Relations(unittest.TestCase):

    def test_against_plain_lists(self):
        for _, m, texts in many_texts(120, 80):
            told = relations(counts_of(texts), m)
            self.assertIs(type(told), Lot)
            self.assertEqual((told.m, told.width), (m, len(texts)))
            rows = rows_of(texts, m)
            self.assertTrue(all(not any(sum(a * b for a, b in zip(row, other)) % m for other in rows)
                                for row in told.rows))
            if m ** len(texts) <= 1000:
                self.assertEqual(told, all_relations(m, len(texts), set(rows)))
            self.assertEqual(relations(list(counts_of(texts)), m), told)

    def test_multiples_and_sums_of_others(self):
        one, other = "walk[x+1+x^-1]", "sum[1]"
        for m in MODULI:
            counts = counts_of((one, other, f"2*{one}", f"{one} - 3*{other}", f"step[{other}]"))
            told = relations(counts, m)
            for row in ((2, 0, -1, 0, 0), (1, -3, 0, -1, 0)):
                self.assertTrue(row in told)
            self.assertFalse((1, 0, 0, 0, 0) in told)
            self.assertEqual(relations(counts_of(("1",)), m).rows, ())
            self.assertEqual(relations(counts_of(("0", "0")), m).rows, ((1, 0), (0, 1)))
            p, _ = prime_power(m)
            self.assertEqual(relations(counts_of((str(m // p),)), m), Lot(m, 1, [(p,)]))
            self.assertEqual(relations(counts_of(("1", "2")), m), Lot(m, 2, [(2, -1)]))

    def test_rules_that_are_known(self):
        # Pascal's rule, and the recurrence of the central numbers: (n + 1) a(n + 1) = (4 n + 2) a(n).
        central = "at[2,0: walk[x+x^-1]]"
        for m in MODULI:
            counts = counts_of((f"next[sum[1]] * next[{central}]", f"sum[1] * {central}", central))
            self.assertTrue((1, -4, -2) in relations(counts, m))
            counts = counts_of(("walk[x^-1 + 1; x^2]", "next[walk[x^-1 + 1; x^2]]", "walk[x^-1 + 1; x]"))
            self.assertTrue((1, -1, 1) in relations(counts, m))

    def test_made_of(self):
        for chance, m, texts in many_texts(121, 80):
            text = chance.choice(TEXTS)
            told = made_of(Count(text), counts_of(texts), m)
            rows, wanted = rows_of(texts, m), rests_of(text, m)
            if told is not None:
                self.assertIs(type(told), tuple)
                self.assertTrue(all(type(number) is int and 0 <= number < m for number in told))
                self.assertTrue(all(sum(a * b for a, b in zip(told, row)) % m == rest
                                    for row, rest in zip(rows, wanted)))
            elif m ** len(texts) <= 1000:
                for numbers in product(range(m), repeat=len(texts)):
                    self.assertTrue(any(sum(a * b for a, b in zip(numbers, row)) % m != rest
                                        for row, rest in zip(rows, wanted)))
        self.assertEqual(made_of(Count("sum[1] + 3"), counts_of(("sum[1]", "1")), 9), (1, 3))
        self.assertIsNone(made_of(Count("1"), counts_of(("2",)), 4))
        self.assertIsNotNone(made_of(Count("2"), counts_of(("1",)), 4))
        self.assertIsNone(made_of(Count("sum[1]"), counts_of(("1", "2", "3")), 25))
        self.assertEqual(made_of(Count("0"), counts_of(("1",)), 7), (0,))

    def test_equal_calls_tell_the_same(self):
        counts = counts_of(("2", "2*sum[1]", "2", "4"))
        self.assertEqual(made_of(counts[1], counts, 8), made_of(counts[1], counts, 8))


class Rules(unittest.TestCase):

    def test_rule(self):
        for m in MODULI:
            p, _ = prime_power(m)
            for text in TEXTS:
                rests = rests_of(text, m, MANY)
                wanted = tuple(next((c for c in range(m) if all(
                    (rests[p * n + d] - c * rests[n]) % m == 0 for n in range((MANY - d) // p))), None)
                    for d in range(p))
                told = rule(Count(text), m)
                self.assertIs(type(told), tuple)
                self.assertEqual(told, wanted, (text, m))

    def test_rules_that_are_known(self):
        self.assertEqual(rule(Count("0"), 4), (0, 0))
        self.assertEqual(rule(Count("5"), 9), (1, 1, 1))
        self.assertEqual(rule(Count("walk[x+x^-1]"), 5), (1, 0, 2, 0, 1))
        self.assertEqual(rule(Count("2"), 4), (1, 1))
        # The least one of several: modulo 4, twice an even value is 0.
        self.assertEqual(rule(Count("2*walk[3]"), 4), (1, 1))
        self.assertEqual(rule(Count("sum[1]"), 3), (0, None, None))

    def test_lucas(self):
        for m in MODULI:
            p, _ = prime_power(m)
            for text in TEXTS:
                rests = rests_of(text, m, 300)
                wanted = next((n for n in range(300) if (rests[n] - rests[n // p] * rests[n % p]) % m), None)
                told = lucas(Count(text), m)
                if wanted is None:
                    self.assertTrue(told is None or told >= 300, (text, m))
                else:
                    self.assertEqual(told, wanted)
        for p in (2, 3, 5, 7):
            for text in ("walk[x+x^-1]", "walk[x+1+x^-1]", "at[2,0: walk[x+x^-1]]", "walk[x+x^-1+y+y^-1]", "1", "0"):
                self.assertIsNone(lucas(Count(text), p))
        # At 0 the square of a(0) is looked at: 3 is not 9.
        self.assertEqual(lucas(Count("3"), 7), 0)
        self.assertEqual(lucas(Count("sum[1]"), 3), 1)
        self.assertEqual(lucas(Count("1 + sum[1]"), 3), 3)

    def test_lucas_breaks_late(self):
        # 1 everywhere but from some number on, so this number breaks the rule for the first time.
        for p, place in ((2, 64), (3, 27), (5, 125), (2, 37), (3, 50)):
            count = Count(f"1 + walk[x^-1; x^{place}]")
            self.assertEqual(lucas(count, p), place)

    def test_lasting(self):
        for m in MODULI:
            p, k = prime_power(m)
            for text in TEXTS + ("at[2,0: walk[x+x^-1]]", f"{p}*sum[1]", f"walk[3] + {m // p}*sum[1]"):
                rests = rests_of(text, m, 400)
                wanted = max(t for t in range(k + 1) if all((rests[p * n] - rests[n]) % p ** t == 0
                                                            for n in range(400 // p)))
                told = lasting(Count(text), m)
                self.assertEqual(told, wanted, (text, m))

    def test_lasting_that_is_known(self):
        # Modulo p^3 the number of ways to choose p * n of 2 * p * n is that for n, for p above 3.
        self.assertEqual(lasting(Count("at[2,0: walk[x+x^-1]]"), 25), 2)
        self.assertEqual(lasting(Count("at[2,0: walk[x+x^-1]]"), 27), 2)
        self.assertEqual(lasting(Count("7"), 16), 4)
        self.assertEqual(lasting(Count("sum[1]"), 16), 0)
        self.assertEqual(lasting(Count("4*sum[1]"), 16), 2)

    def test_wrong_moduli(self):
        for m in NO_MODULI:
            for action in (rule, lucas, lasting, lambda count, m: zero_classes(count, m, -1)):
                with self.assertRaises(BadNumber) as caught:
                    action(Count("1"), m)
                self.assertEqual(caught.exception.what, "modulus")
                self.assertIs(caught.exception.number, m)


class ZeroClasses(unittest.TestCase):

    def test_against_plain_rests(self):
        for m in MODULI:
            p, _ = prime_power(m)
            for text in TEXTS + ("walk[x^2+x^-2]", "walk[x^3 + x^-3 + x^6]", f"{m // p} * walk[x+x^-1]"):
                for j in range(7):
                    if p ** j > 130:
                        break
                    rests = rests_of(text, m, 600)
                    wanted = tuple(i for i in range(p ** j) if not any(rests[i::p ** j]))
                    self.assertEqual(zero_classes(Count(text), m, j), wanted, (text, m, j))

    def test_edges(self):
        self.assertEqual(zero_classes(Count("0"), 4, 0), (0,))
        self.assertEqual(zero_classes(Count("4"), 4, 2), (0, 1, 2, 3))
        self.assertEqual(zero_classes(Count("1"), 4, 6), ())
        self.assertEqual(zero_classes(Count("walk[x+x^-1]"), 3, 1), (1,))
        self.assertEqual(zero_classes(Count("walk[x+x^-1]"), 2, 1), (1,))
        self.assertIs(type(zero_classes(Count("1"), 4, 6)), tuple)

    def test_wrong_j(self):
        for j in NO_NUMBERS + (7, 10 ** 60):
            with self.assertRaises(BadNumber) as caught:
                zero_classes(Count("1"), 4, j)
            self.assertEqual(caught.exception.what, "j")
            self.assertIs(caught.exception.number, j)

    def test_greatest_sizes_end_in_seconds(self):
        begin = time.monotonic()
        for m, j in ((2, 6), (16, 6), (3, 6), (27, 6), (5, 5), (25, 5), (7, 4)):
            p, _ = prime_power(m)
            text = "at[2,0: walk[x+x^-1]] * walk[x+1+x^-1]"
            told = zero_classes(Count(text), m, j)
            tables = tables_of(Count(text), m)
            for i in told[::50]:
                self.assertEqual([tables.at(p ** j * n + i) for n in range(8)], [0] * 8)
        self.assertLess(time.monotonic() - begin, 20)


class EnoughValues(unittest.TestCase):

    def test_values_lot(self):
        for _, m, texts in many_texts(122, 80):
            told = values_lot(counts_of(texts), m)
            self.assertIs(type(told), Lot)
            self.assertEqual(told, Lot(m, len(texts), rows_of(texts, m)))
            self.assertEqual(values_lot(list(counts_of(texts)), m), told)

    def test_values_and_relations(self):
        for _, m, texts in many_texts(123, 60):
            counts = counts_of(texts)
            lot, known = values_lot(counts, m), relations(counts, m)
            self.assertEqual(lot.size * known.size, m ** len(texts))
            self.assertTrue(all(sum(a * b for a, b in zip(row, other)) % m == 0
                                for row in lot.rows for other in known.rows))

    def test_enough(self):
        for _, m, texts in many_texts(124, 80):
            told = enough(counts_of(texts), m)
            lot, wanted = Lot(m, len(texts)), 0
            for n, row in enumerate(rows_of(texts, m)):
                if row not in lot:
                    lot, wanted = lot.joined(Lot(m, len(texts), [row])), n + 1
            self.assertEqual(told, wanted)

    def test_first_values_that_come_late(self):
        for m in MODULI:
            self.assertEqual(enough(counts_of(("0", str(m))), m), 0)
            self.assertEqual(enough(counts_of(("1", "3")), m), 1)
            for place in (0, 1, 9, 30):
                self.assertEqual(enough(counts_of(("0", f"walk[x^-1; x^{place}]")), m), place + 1)
                self.assertEqual(enough(counts_of(("1", f"walk[x^-1; x^{place}]")), m), max(place, 1) + 1)
        # A number is not enough where its multiple by p is known alone.
        self.assertEqual(enough(counts_of(("4 + walk[x^-1; x^5]",)), 16), 6)
        self.assertEqual(enough(counts_of(("8 - 4*walk[x^-1; x^3] + walk[x^-1; x^7]",)), 16), 8)

    def test_numbers_of_many_digits(self):
        # The number of ways to choose p^e of n is 0 modulo p below p^e, and modulo 2 the number
        # of ways to choose 2^e of n + 1 is 0 below 2^e - 1.
        self.assertEqual(enough(counts_of(("walk[x^-1 + 1; x^27]",)), 3), 28)
        self.assertEqual(enough(counts_of(("next[walk[x^-1 + 1; x^32]]",)), 2), 32)
        self.assertEqual(enough(counts_of(("walk[x^-1 + 1; x^31]", "walk[x^-1 + 1; x^25]")), 5), 32)

    def test_facts(self):
        for _, m, texts in many_texts(125, 25):
            counts = counts_of(texts)
            many = enough(counts, m)
            if many <= 120:
                rows = [tuple(rest_at(count, n, m) for count in counts) for n in range(many)]
                self.assertEqual(Lot(m, len(texts), rows), values_lot(counts, m))
                if many:
                    self.assertNotEqual(Lot(m, len(texts), rows[:-1]), values_lot(counts, m))


class Errors(unittest.TestCase):

    def test_errors_in_their_order(self):
        one = Count("sum[1]")
        actions = (relations, values_lot, enough, lambda counts, m: made_of(one, counts, m))
        for action in actions:
            for m in NO_MODULI:
                for counts in ((), (one,), (one,) * 9):
                    error = self.error_of(BadNumber, action, counts, m)
                    self.assertEqual(error.what, "modulus")
                    self.assertIs(error.number, m)
            for counts in ((), []):
                error = self.error_of(BadNumber, action, counts, 4)
                self.assertEqual((error.what, error.number), ("counts", 0))
            for counts in ((one,) * 9, [one] * 12):
                error = self.error_of(TooMany, action, counts, 4)
                self.assertEqual((error.what, error.limit), ("counts", 8))
            action((one,) * 8, 4)

    def error_of(self, error, action, *arguments):
        with self.assertRaises(error) as caught:
            action(*arguments)
        return caught.exception

    def test_greatest_sizes_end_in_seconds(self):
        begin = time.monotonic()
        for m, steps in ((7, ("x^10 - x^-9 + 2", "x^9 + x^-10 + 3*x", "x^8 - 2*x^-7 + x^2", "x^7 + 3*x^-10 - 1")),
                         (2, ("x^10 - x^-9 + 1", "x^9 + x^-10 + x", "x^8 - x^-7 + x^2", "x^7 + x^-10 - 1")),
                         (4, ("x^5 - x^-4 + 2", "x^4 + x^-5 + 3*x", "x^3 - 2*x^-5 + x^2", "x^5 + 3*x^-2 - 1")),
                         (27, ("x - x^-1 + 2", "x + 2*x^-1 + 3", "2*x + 3*x^-1", "x + 3*x^-1 - 1"))):
            walks = [f"walk[{one}]" for one in steps]
            counts = counts_of(walks + [f"{walks[0]} * {walks[1]}", f"sum[{walks[2]}]", f"{walks[3]} - 3*{walks[0]}",
                                        f"next[{walks[1]}]"])
            known, lot, many = relations(counts, m), values_lot(counts, m), enough(counts, m)
            self.assertTrue((3, 0, 0, -1, 0, 0, 1, 0) in known)
            self.assertEqual(known.size * lot.size, m ** 8)
            self.assertGreater(many, 5)
            told = made_of(counts[6], counts[:6], m)
            self.assertTrue(tuple(told) + (-1, 0) in known)
            for count in counts if m != 7 else counts[:4]:
                self.assertEqual(len(rule(count, m)), prime_power(m)[0])
                lucas(count, m), lasting(count, m)
        self.assertLess(time.monotonic() - begin, 90)


if __name__ == "__main__":
    unittest.main()
