"""[33], [34], [35], [36], [37], [38] equal for all n, or the least n."""

import random
import time
import unittest

from plain_counts import MODULI, NO_MODULI, NO_NUMBERS, led, random_parts, steady_parts, words
from plain_lots import made_by
from restcounts.counts import Count
from restcounts.errors import BadNumber, Unlike
from restcounts.likeness import Alike, Apart, alike, first_apart, is_paper, same_tables
from restcounts.moduli import digits, prime_power
from restcounts.residuals import least_tables
from restcounts.tables import Tables, is_steady, jumped, plus, scaled, tables_of, times

# Pairs of counts that are alike for a reason, modulo each modulus.
ALIKE = (
    ("walk[2*x + 1 - x^-2; x]", "walk[2*x^-1 + 1 - x^2; x^-1]"),
    ("walk[x + x^-1 + y]", "walk[y + y^-1 + x]"),
    ("walk[3*x]", "walk[0]"), ("walk[3*x]", "walk[5*y^-1]"),
    ("walk[2 + 4*x]", "walk[2]"), ("walk[x + x^-1; x^2]", "walk[x + x^-1; x^-2]"),
    ("next[walk[x + 1 + x^-1]]", "walk[x + 1 + x^-1; x + 1 + x^-1]"),
    ("at[2, 0: walk[x + x^-1]]", "walk[x^2 + 2 + x^-2]"),
    ("at[2, 1: walk[x - 2]]", "walk[x^2 - 4*x + 4; x - 2]"),
    ("at[3, 0: walk[x^2 + x^-1]]", "walk[x^6 + 3*x^3 + 3 + x^-3]"),
    ("step[sum[walk[x + 1 + x^-1]]]", "walk[x + 1 + x^-1]"),
    ("fold[walk[2], 1]", "walk[2] * 2 - 1"), ("fold[walk[x + x^-1], 0]", "0"),
    ("sum[1] * sum[1]", "2*sum[sum[1]] + sum[1]"),
    ("walk[x + x^-1 + y + y^-1]", "walk[x + x^-1] * walk[y + y^-1]"),
    ("walk[x + x^-1] * (walk[2] + 3)", "walk[x + x^-1] * walk[2] + 3 * walk[x + x^-1]"),
)


def unlike_word(one, other, most):
    """A word of few digits at which two Tables are unlike, None if there is none."""
    p, _ = prime_power(one.m)
    return next((word for word in words(p, most) if one.along(word) != other.along(word)), None)


class Counts(unittest.TestCase):

    def check_alike(self, one, other, m):
        told = alike(Count(one), Count(other), m)
        self.assertIs(type(told), Alike, (one, other, m))
        for tables, text in ((told.one, one), (told.other, other)):
            self.assertIs(type(tables), Tables)
            self.assertIs(is_steady(tables), True)
            self.assertEqual(tuple(tables.at(n) for n in range(20)), Count(text).first_rests(20, m))
        self.assertIs(is_paper(told.one, told.other, told.rows), True)

    def test_alike_for_a_reason(self):
        for one, other in ALIKE:
            for m in MODULI:
                self.check_alike(one, other, m)
                self.check_alike(one, f"({other}) + {m} * walk[x + 1; x^-2 + 1]", m)
                self.check_alike(f"{3 * m} * ({one})", f"{m} * sum[walk[x + 1 + x^-1]]", m)

    def test_alike_modulo_a_divisor_alone(self):
        for m in (4, 8, 16, 9, 27, 25):
            p, k = prime_power(m)
            one, other = "walk[x + 1 + x^-1]", f"walk[x + 1 + x^-1] + {m // p} * sum[sum[1]]"
            self.check_alike(one, other, m // p)
            self.assertEqual(alike(Count(one), Count(other), m).n, 2)

    def test_apart(self):
        chance = random.Random(110)
        texts = [text for pair in ALIKE for text in pair] + ["sum[1]", "0", "1", "walk[x + 1 + x^-1] * sum[1]"]
        texts = [text for text in texts if "y" not in text]
        for _ in range(250):
            one, other = Count(chance.choice(texts)), Count(chance.choice(texts))
            m = chance.choice(MODULI)
            rests, rests2 = one.first_rests(150, m), other.first_rests(150, m)
            n = next((n for n in range(150) if rests[n] != rests2[n]), None)
            told = alike(one, other, m)
            if n is None:
                self.assertIs(type(told), Alike)
            else:
                self.assertIs(type(told), Apart)
                self.assertEqual((told.n, told.rests), (n, (rests[n], rests2[n])))
                self.assertIs(type(told.rests), tuple)

    def test_late_differences(self):
        for m, place in ((2, 128), (3, 81), (5, 125), (7, 49), (4, 31), (27, 26)):
            # The number of ways to choose so many of n is 0 below.
            told = alike(Count(f"walk[x^-1 + 1; x^{place}] + 1"), Count("1"), m)
            self.assertEqual((told.n, told.rests), (place, (2 % m, 1)))

    def test_classes(self):
        rows = [[1, 2], (3, 4)]
        one, other = tables_of(Count("1"), 4), tables_of(Count("2"), 4)
        told = Alike(one, other, rows)
        rows[0][0] = 9
        rows.append((5, 6))
        self.assertEqual((told.one, told.other, told.rows), (one, other, ((1, 2), (3, 4))))
        pair = [1, 2]
        told = Apart(5, pair)
        pair[0] = 9
        self.assertEqual((told.n, told.rests), (5, (1, 2)))

    def test_wrong_moduli(self):
        for m in NO_MODULI:
            with self.assertRaises(BadNumber) as caught:
                alike(Count("1"), Count("2"), m)
            self.assertEqual(caught.exception.what, "modulus")
            self.assertIs(caught.exception.number, m)

    def test_greatest_sizes_end_in_seconds(self):
        begin = time.monotonic()
        big = " + ".join(f"walk[x^{a} + 2*x^-{b} + {a}]" for a, b in ((10, 7), (9, 8), (7, 9)))
        negated = " + ".join(f"walk[x^-{a} + 2*x^{b} + {a}]" for a, b in ((7, 9), (9, 8), (10, 7)))
        for m in (7, 5, 2, 3):
            self.check_alike(big, negated, m)
            self.assertIs(type(alike(Count(big), Count(f"{negated} + walk[x^-1 + 1; x^30]"), m)), Apart)
        for m in (16, 27):
            one = "walk[x + 2*x^-1 + 1; x^20 + x^-3] * 3 + walk[x - x^-1; x^31]"
            other = "walk[x^-1 + 2*x + 1; x^-20 + x^3] * 3 + walk[x^-1 - x; x^-31]"
            self.check_alike(one, other, m)
        self.assertLess(time.monotonic() - begin, 60)


class Papers(unittest.TestCase):

    def pairs(self):
        """Pairs of Tables, alike and not, steady and not."""
        chance = random.Random(111)
        for m in MODULI:
            p, _ = prime_power(m)
            for size in range(4):
                for factor in (1, p):
                    one = Tables(m, *random_parts(chance, m, size, factor))
                    other = Tables(m, *random_parts(chance, m, chance.randrange(3), factor))
                    yield one, other
                    yield one, one
                    yield plus(one, other), plus(other, one)
                    yield times(one, other), times(other, one)
                    yield plus(plus(one, other), scaled(other, -1)), one
                    yield scaled(one, 2), plus(one, one)
            one = Tables(m, *steady_parts(chance, m, 3))
            yield one, least_tables(one)
            yield jumped(one, 2, 3), least_tables(jumped(one, 2, 3))

    def test_same_tables(self):
        seen = {True: 0, False: 0}
        for one, other in self.pairs():
            p, k = prime_power(one.m)
            rows = same_tables(one, other)
            word = unlike_word(one, other, 6 if p == 2 else 3)
            seen[rows is None] += 1
            if rows is None:
                if k * (one.size + other.size) <= 5:
                    self.assertIsNotNone(unlike_word(one, other, k * (one.size + other.size)))
                continue
            self.assertIsNone(word)
            self.assertIs(type(rows), tuple)
            self.assertTrue(all(type(row) is tuple and len(row) == one.size + other.size for row in rows))
            self.assertIs(is_paper(one, other, rows), True)
        self.assertGreater(min(seen.values()), 30)

    def is_paper_plainly(self, one, other, rows):
        """By plain lists of all sums of multiples of the rows."""
        m, width = one.m, one.size + other.size
        lot = made_by(m, width, [tuple(number % m for number in row) for row in rows])
        first = one.first + tuple(-number % m for number in other.first)
        if first not in lot:
            return False
        for row in rows:
            if sum(a * b for a, b in zip(row, one.ends + other.ends)) % m:
                return False
            for table, table2 in zip(one.moves, other.moves):
                if led(m, row[:one.size], table) + led(m, row[one.size:], table2) not in lot:
                    return False
        return True

    def test_papers_against_plain_lists(self):
        chance = random.Random(112)
        seen = {True: 0, False: 0}
        for one, other in self.pairs():
            m, width = one.m, one.size + other.size
            if m ** width > 1000:
                continue
            rows = list(same_tables(one, other) or [])
            samples = [rows, rows[1:], rows[:-1], rows * 2, rows[::-1], []]
            samples.append([tuple(number + m * chance.choice((-1, 0, 10 ** 60)) for number in row) for row in rows])
            samples.append([tuple(2 * number for number in row) for row in rows])
            samples.append(rows + [tuple(chance.randrange(m) for _ in range(width))])
            samples.append([tuple(number + (chance.random() < 0.1) for number in row) for row in rows])
            samples.append([tuple(chance.randrange(m) for _ in range(width)) for _ in range(chance.randrange(4))])
            samples.append([tuple(int(i == j) for i in range(width)) for j in range(width)])
            for sample in samples:
                wanted = self.is_paper_plainly(one, other, sample)
                self.assertIs(is_paper(one, other, tuple(sample)), wanted)
                seen[wanted] += 1
        self.assertGreater(min(seen.values()), 100)

    def test_values_that_are_no_papers(self):
        one = tables_of(Count("walk[x + 1 + x^-1] + sum[1]"), 9)
        other = plus(one, Tables(9, (0,), [((1,),)] * 3, (0,)))
        rows = same_tables(one, other)
        self.assertIs(is_paper(one, other, rows), True)
        self.assertTrue(len(rows) > 1)
        width = one.size + other.size
        for value in (list(rows), rows[1:], rows[:-1], tuple(list(row) for row in rows), rows + ([0] * width,),
                      rows + ((0,) * (width + 1),), rows + ((0,) * (width - 1),), tuple(row[1:] for row in rows),
                      tuple(row + (0,) for row in rows), rows + (None,), rows + ((True,) + (0,) * (width - 1),),
                      rows + ((0.0,) * width,), rows + (("0",) * width,), None, 0, True, "", "rows", {}, set(), rows[0],
                      {row: True for row in rows}, (rows,), tuple(sum(rows, ())), rows + ((),), rows + (5,)):
            self.assertIs(is_paper(one, other, value), False, value)
        self.assertIs(is_paper(one, other, rows + rows), True)
        self.assertIs(is_paper(one, other, rows + ((0,) * width,)), True)
        self.assertIs(is_paper(other, one, rows), False)
        none = Tables(9, (), ((),) * 3, ())
        self.assertEqual((is_paper(none, none, ()), is_paper(none, none, ((),)), is_paper(none, none, [])),
                         (True, True, False))

    def test_unlike_moduli(self):
        one, other = tables_of(Count("1"), 4), tables_of(Count("1"), 2)
        for action in (lambda a, b: same_tables(a, b), lambda a, b: is_paper(a, b, None),
                       lambda a, b: first_apart(a, b, -1)):
            for pair in ((one, other), (other, one)):
                with self.assertRaises(Unlike) as caught:
                    action(*pair)
                self.assertEqual(caught.exception.what, "modulus")

    def test_greatest_sizes_end_in_seconds(self):
        begin = time.monotonic()
        chance = random.Random(113)
        for m in MODULI:
            one = Tables(m, *random_parts(chance, m, 50))
            rows = same_tables(one, one)
            self.assertIs(is_paper(one, one, rows), True)
            changed = Tables(m, one.first, one.moves, one.ends[:-1] + (one.ends[-1] + 1,))
            self.assertIs(is_paper(one, changed, rows), False)
            self.assertIsNone(same_tables(one, changed))
        self.assertLess(time.monotonic() - begin, 60)


class FirstApart(unittest.TestCase):

    def check(self, one, other, low, most=80):
        told = first_apart(one, other, low)
        near = next((n for n in range(low, low + most) if one.at(n) != other.at(n)), None)
        if near is not None:
            self.assertEqual(told, near)
        elif told is not None:
            self.assertGreaterEqual(told, low + most)
            self.assertNotEqual(one.at(told), other.at(told))
        return told

    def test_low_below_at_and_above_the_differences(self):
        chance = random.Random(114)
        for m in MODULI:
            p, _ = prime_power(m)
            for _ in range(5):
                one, other = [Tables(m, *steady_parts(chance, m, chance.randrange(4))) for _ in range(2)]
                for low in list(range(12)) + [p ** 3 - 1, p ** 3, p ** 3 + 1, 10 ** 60 - 1, chance.randrange(10 ** 60)]:
                    told = self.check(one, other, low)
                    if told is not None:
                        self.assertEqual(first_apart(one, other, told), told)
                        self.assertEqual(first_apart(other, one, low), told)
                        self.check(one, other, told + 1)
                    self.assertIsNone(first_apart(one, one, low))

    def test_differences_at_a_few_numbers_alone(self):
        # x^-1 at the power n is 1 at one end alone, so the values are unlike at one n alone.
        for m in MODULI:
            for place in (0, 1, 5, 31):
                one, other = tables_of(Count(f"walk[x^-1; x^{place}]"), m), tables_of(Count("0"), m)
                for low in range(0, 40):
                    self.assertEqual(first_apart(one, other, low), place if low <= place else None)
            # Differences that come close behind low, and less close.
            place = 10 ** 20 + 7
            one, zero = self.at_one_number(m, place), tables_of(Count("0"), m)
            for gap in list(range(0, 120, 7)) + [48, 49, 50, 51, 52, 99, 100, 101]:
                self.assertEqual(first_apart(one, zero, place - gap), place)
            self.assertIsNone(first_apart(one, zero, place + 1))

    def at_one_number(self, m, place):
        """Tables that tell 1 at this number, and else 0."""
        p, _ = prime_power(m)
        one = self.chain(p, digits(place, p), None)
        return Tables(m, one.first, one.moves, one.ends)

    def chain(self, p, word, round_from):
        """Tables that tell 1 at the words that go on to the last state, and else 0.

        State at leads to the next one by the digit word[at]; the last one stays by a 0.
        """
        size = len(word) + 1
        moves = []
        for digit in range(p):
            rows = []
            for at in range(size):
                row = [0] * size
                if at < len(word) and digit == word[at]:
                    row[at + 1] = 1
                if at == len(word) and digit == 0:
                    row[at] = 1
                if round_from is not None and at == len(word) and digit == p - 1:
                    row[round_from] = 1
                rows.append(row)
            moves.append(rows)
        return Tables(p, [1] + [0] * (size - 1), moves, [0] * (size - 1) + [1])

    def test_differences_that_come_late(self):
        for p, many in ((2, 20), (2, 95), (3, 20), (3, 95), (5, 86), (7, 20), (7, 70)):
            chance = random.Random(p)
            word = [chance.randrange(p) for _ in range(many)] + [1]
            one = self.chain(p, word, None)
            zero = Tables(p, (0,), [((1,),)] * p, (0,))
            self.assertIs(is_steady(one), True)
            place = sum(digit * p ** at for at, digit in enumerate(word))
            for low, wanted in ((0, place), (place - 1, place), (place, place), (place + 1, None)):
                self.assertEqual(first_apart(one, zero, low), wanted)
            # A number of many digits: the same word again and again.
            again = self.chain(p, word, 1)
            low = 10 ** 59
            told = first_apart(again, zero, low)
            self.assertGreaterEqual(told, low)
            self.assertEqual(again.at(told), 1)
            self.assertEqual(first_apart(again, zero, told), told)
            self.check(again, zero, told + 1)

    def test_against_numbers_in_their_order(self):
        chance = random.Random(115)
        for p in (2, 3):
            for _ in range(15):
                word = [chance.randrange(p) for _ in range(chance.randrange(4))] + [1]
                tables = self.chain(p, word, chance.choice((None, 0, 1)))
                zero = Tables(p, (), ((),) * p, ())
                values = [n for n in range(1500) if tables.at(n)]
                for low in chance.sample(range(1200), 12):
                    wanted = next((n for n in values if n >= low), None)
                    told = first_apart(tables, zero, low)
                    self.assertTrue(told == wanted or wanted is None and told >= 1500)

    def round_tables(self, p, ahead, states):
        """Tables with some states ahead of a round of states, one behind the other by each digit.

        Only from the first state of the round digits above 0 lead to the last state, at which the
        value is 1 if but zeros follow.
        """
        size = ahead + states + 1
        moves = []
        for digit in range(p):
            rows = [[int(j == (at + 1 if at < size - 2 else ahead)) for j in range(size)] for at in range(size - 1)]
            if digit:
                rows[ahead] = [0] * (size - 1) + [1]
            rows.append([0] * (size - 1) + [int(digit == 0)])
            moves.append(rows)
        return Tables(p, [1] + [0] * (size - 1), moves, [0] * (size - 1) + [1])

    def test_lots_that_go_round(self):
        for p, ahead, states in ((2, 0, 2), (2, 1, 3), (2, 0, 3), (2, 2, 5), (3, 0, 3), (3, 1, 3), (5, 1, 2)):
            tables = self.round_tables(p, ahead, states)
            self.assertIs(is_steady(tables), True)
            zero = Tables(p, (), ((),) * p, ())
            values = [n for n in range(15000) if tables.at(n)]
            lows = [place + 1 for place, after in zip(values, values[1:]) if after > place + 60]
            self.assertTrue(lows)
            for low in lows + [place + 7 for place in lows]:
                self.assertEqual(first_apart(tables, zero, low), next(n for n in values if n >= low))
            for place in (ahead + 10 * states, ahead + 13 * states):
                # The greatest one of so many digits, and the least one of more digits.
                highest = (p - 1) * sum(p ** at for at in range(place + 1)
                                        if at == place or at < ahead or (at - ahead) % states)
                self.assertEqual(first_apart(tables, zero, highest), highest)
                self.assertEqual(first_apart(tables, zero, highest + 1), p ** (place + states))

    def test_wrong_low(self):
        one = tables_of(Count("1"), 4)
        for low in NO_NUMBERS:
            with self.assertRaises(BadNumber) as caught:
                first_apart(one, one, low)
            self.assertEqual(caught.exception.what, "low")
            self.assertIs(caught.exception.number, low)

    def test_greatest_sizes_end_in_seconds(self):
        begin = time.monotonic()
        chance = random.Random(116)
        for m in MODULI:
            one, other = Tables(m, *steady_parts(chance, m, 50)), Tables(m, *steady_parts(chance, m, 50))
            for low in (0, 10 ** 60 - 1):
                told = first_apart(one, other, low)
                self.assertNotEqual(one.at(told), other.at(told))
                self.assertIsNone(first_apart(one, least_tables(one), low))
        self.assertLess(time.monotonic() - begin, 60)


if __name__ == "__main__":
    unittest.main()
