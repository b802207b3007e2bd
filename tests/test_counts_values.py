"""[13], [17], [18], [19] plain values and rests of counts."""

import random
import time
import unittest
from math import comb

from plain_counts import (
    MODULI, NO_MODULI, NO_NUMBERS, constants, fold_of, jump, next_of, number, step_of, sum_of, terms_of, walk)
from restcounts.counts import Count, walk_rests, walk_values
from restcounts.errors import BadNumber, TooLarge
from restcounts.powers import Powers, powers_of

WALKS = ("x + x^-1", "x + 1 + x^-1", "2*x - x^-1 + 1", "x^2 - 3*x^-1", "0", "3", "x", "-x^-1",
         "x + x^-1 + y + y^-1", "x + y + z + x^-1*y^-1*z^-1", "x*y - y^-2 + x^-1 + 2")
ENDS = ("1", "x", "1 - x", "x^2*y + 3", "0", "-5", "x^8 - y^-2 + z")


def random_count(chance, deep):
    if deep == 0:
        return number(chance.randrange(40)) if chance.random() < 0.3 else walk(chance.choice(WALKS[:5]))
    one = random_count(chance, deep - 1)
    other = random_count(chance, 0)
    return chance.choice((
        lambda: one + other, lambda: one - other, lambda: one * other, lambda: -one,
        lambda: jump(chance.randrange(1, 4), chance.randrange(3), one), lambda: next_of(one),
        lambda: step_of(one), lambda: sum_of(one), lambda: fold_of(one, other)))()


class Values(unittest.TestCase):

    def check(self, plain, many):
        count = Count(plain.text)
        wanted = [plain.at(n) for n in range(many)]
        self.assertEqual([count.value(n) for n in range(many)], wanted, plain.text)
        for m in (2, 16, 27, 25, 7):
            told = count.first_rests(many, m)
            self.assertIs(type(told), tuple)
            self.assertEqual(told, tuple(value % m for value in wanted), (plain.text, m))

    def test_walks_and_numbers(self):
        for i in (0, 1, 10 ** 40 - 1):
            self.check(number(i), 4)
        for steps in WALKS:
            for ends in ENDS:
                self.check(walk(steps, ends, 8), 8)

    def test_known_walks(self):
        central, motzkin, square = Count("walk[x+x^-1]"), Count("walk[x+1+x^-1]"), Count("walk[x+x^-1+y+y^-1]")
        for n in range(20):
            self.assertEqual(central.value(2 * n), comb(2 * n, n))
            self.assertEqual(central.value(2 * n + 1), 0)
            self.assertEqual(motzkin.value(n), sum(comb(n, 2 * i) * comb(2 * i, i) for i in range(n // 2 + 1)))
            self.assertEqual(square.value(2 * n), comb(2 * n, n) ** 2)
        self.assertEqual(Count("walk[0]").first_rests(3, 2), (1, 0, 0))
        self.assertEqual([Count("walk[0; 7 + x]").value(n) for n in range(3)], [7, 0, 0])
        self.assertEqual(Count("walk[x; x^-5]").first_rests(8, 9), (0, 0, 0, 0, 0, 1, 0, 0))

    def test_each_word(self):
        one, other = walk("x + 1 + x^-1"), walk("2*x - x^-1 + 1", "x + 3")
        for inner in (one, other, number(7), one * other):
            self.check(-inner, 10)
            self.check(next_of(inner), 10)
            self.check(step_of(inner), 10)
            self.check(sum_of(inner), 10)
            for c, d in ((1, 0), (1, 3), (2, 0), (3, 2)):
                self.check(jump(c, d, inner), 6)
            self.check(inner + other, 10)
            self.check(inner - other, 10)
            self.check(inner * other, 10)
            self.check(fold_of(inner, other), 10)
        self.check(sum_of(sum_of(fold_of(number(2), sum_of(number(3))))), 30)
        self.check(step_of(jump(5, 7, sum_of(number(3)))), 30)
        self.check(jump(99, 999, number(4) * sum_of(number(1))), 20)

    def test_words_within_words(self):
        chance = random.Random(70)
        for _ in range(120):
            self.check(random_count(chance, chance.randrange(1, 4)), 7)

    def test_at_zero(self):
        for text, wanted in (("sum[walk[x+1]]", 0), ("fold[3,4]", 12), ("step[sum[5]]", 5), ("next[sum[5]]", 5),
                             ("at[3,2:sum[5]]", 10), ("-walk[x;x]", 0), ("walk[5;7]", 7)):
            self.assertEqual(Count(text).value(0), wanted)

    def test_walk_free_counts_far_out(self):
        n = 200
        for text, wanted in (("at[99,999:at[99,999:sum[7]]]", 7 * (99 * (99 * n + 999) + 999)),
                             ("at[99,0:at[99,0:at[99,0:fold[1,1]]]]", 99 ** 3 * n + 1),
                             ("at[99,0:sum[sum[2]]]", 99 * n * (99 * n - 1)),
                             ("step[" * 20 + "sum[3]" + "]" * 20, 0)):
            self.assertEqual(Count(text).value(n), wanted)
            self.assertEqual(Count(text).first_rests(201, 27)[n], wanted % 27)


class Sizes(unittest.TestCase):

    def test_greatest_values_end_in_seconds(self):
        begin = time.monotonic()
        self.assertEqual(Count("at[2,0: walk[x+x^-1]]").value(200), comb(400, 200))
        self.assertEqual(Count("walk[x+x^-1+y+y^-1]").value(60), comb(60, 30) ** 2)
        self.assertEqual(Count("walk[x^8+x^-8+y^8+y^-8]").value(60), comb(60, 30) ** 2)
        self.assertEqual(Count("walk[x+x^-1; x^8]").value(200), comb(200, 96))
        cubic = "x+x^-1+y+y^-1+z+z^-1"
        self.assertEqual(Count(f"walk[{cubic}]").value(20),
                         comb(20, 10) * sum(comb(10, i) ** 2 * comb(2 * i, i) for i in range(11)))
        wide = "+".join(f"x^{e}" for e in range(-8, 9))
        values = walk_values(powers_of(wide), powers_of("1"), 400)
        self.assertEqual(len(values), 400)
        # The powers of x^-8 + .. + x^8 are those of (x^17 - 1) / (x - 1), less their lowest power.
        for n in (1, 2, 50, 399):
            self.assertEqual(values[n], sum((-1) ** j * comb(n, j) * comb(8 * n - 17 * j + n - 1, n - 1)
                                            for j in range(n + 1) if 8 * n - 17 * j >= 0))
        self.assertLess(time.monotonic() - begin, 60)

    def test_greatest_rests_end_in_seconds(self):
        begin = time.monotonic()
        for m in (16, 27, 7):
            told = Count("walk[x^2+3*x^-2+x-1; x^2-x^-1] * fold[walk[x+x^-2], walk[x-x^-1+1]]").first_rests(2000, m)
            self.assertEqual(len(told), 2000)
            central = Count("at[2,0: walk[x+x^-1]]").first_rests(1000, m)
            self.assertEqual(central[:500], tuple(comb(2 * n, n) % m for n in range(500)))
            self.assertEqual(central[999], comb(1998, 999) % m)
            self.assertEqual(Count("sum[1]*sum[1]").first_rests(2000, m), tuple(n * n % m for n in range(2000)))
            self.assertEqual(walk_rests(powers_of("x^2+x^-2"), powers_of("1"), 2000, m)[1998], comb(1998, 999) % m)
            self.assertEqual(walk_rests(powers_of("x^2+x^-2+y^2+y^-2"), powers_of("1"), 60, m)[58],
                             comb(58, 29) ** 2 % m)
            self.assertEqual(len(walk_rests(powers_of("x^2+x^-2+y*z^2+y^-2+z-3"), powers_of("1"), 20, m)), 20)
        self.assertLess(time.monotonic() - begin, 60)


class Walks(unittest.TestCase):

    def test_values_and_rests(self):
        for steps in WALKS:
            for ends in ENDS:
                one, other = powers_of(steps), powers_of(ends)
                wanted = constants(terms_of(steps), terms_of(ends), 9)
                for many in (0, 1, 2, 9):
                    told = walk_values(one, other, many)
                    self.assertIs(type(told), tuple)
                    self.assertEqual(told, tuple(wanted[:many]))
                for m in MODULI:
                    told = walk_rests(one, other, 9, m)
                    self.assertIs(type(told), tuple)
                    self.assertEqual(told, tuple(value % m for value in wanted))
                for many in (0, 1, 2):
                    self.assertEqual(walk_rests(one, other, many, 9), tuple(value % 9 for value in wanted[:many]))

    def test_random_walks(self):
        chance = random.Random(71)
        for _ in range(150):
            letters = chance.randrange(1, 4)
            pairs = [[([chance.randrange(-8, 9) if at < letters else 0 for at in range(3)],
                       chance.choice((1, -2, 10 ** 20))) for _ in range(chance.randrange(5))] for _ in range(2)]
            steps, ends = Powers(pairs[0]), Powers(pairs[1])
            wanted = constants(dict(steps.terms), dict(ends.terms), 7)
            self.assertEqual(walk_values(steps, ends, 7), tuple(wanted))
            for m in (8, 27, 7):
                self.assertEqual(walk_rests(steps, ends, 7, m), tuple(value % m for value in wanted))


class Errors(unittest.TestCase):

    def raised(self, error, action, *fields):
        with self.assertRaises(error) as caught:
            action()
        for name, value in zip(("what", "number", "limit"), fields):
            told = getattr(caught.exception, name)
            self.assertTrue(told is value or told == value)

    def test_value(self):
        count = Count("sum[1]")
        for n in NO_NUMBERS:
            self.raised(BadNumber, lambda: count.value(n), "n", n)
        for n in (201, 10 ** 60):
            self.raised(TooLarge, lambda: count.value(n), "n", n, 200)
        self.assertEqual((count.value(200), count.value(0)), (200, 0))

    def test_rests(self):
        count, one = Count("sum[1]"), powers_of("x + x^-1")
        for first in (count.first_rests, lambda many, m: walk_rests(one, one, many, m)):
            for m in NO_MODULI:
                for many in NO_NUMBERS:
                    self.raised(BadNumber, lambda: first(many, m), "many", many)
                self.raised(TooLarge, lambda: first(2001, m), "many", 2001, 2000)
                for many in (0, 5, 2000):
                    self.raised(BadNumber, lambda: first(many, m), "modulus", m)
            self.raised(TooLarge, lambda: first(10 ** 60, 2), "many", 10 ** 60, 2000)
            self.assertEqual(len(first(2000, 2)), 2000)
            self.assertEqual(first(0, 2), ())

    def test_walk_values(self):
        one = powers_of("x + x^-1")
        for many in NO_NUMBERS:
            self.raised(BadNumber, lambda: walk_values(one, one, many), "many", many)
        for many in (401, 10 ** 60):
            self.raised(TooLarge, lambda: walk_values(one, one, many), "many", many, 400)
        self.assertEqual(len(walk_values(one, one, 400)), 400)


if __name__ == "__main__":
    unittest.main()
