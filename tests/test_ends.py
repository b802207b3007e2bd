"""[47], [48], [49], [50] all ends of walks, and digits turned about."""

import random
import time
import unittest
from itertools import product

from plain_counts import MODULI, NO_MODULI, NO_ROWS, random_parts, steady_parts, value_along, words
from restcounts.counts import Count, walk_rests
from restcounts.ends import alike_ends, end_relations, ends_for, symmetric, turned
from restcounts.errors import BadNumber, BadRow, TooMany, Unlike
from restcounts.likeness import Alike, alike
from restcounts.lots import Lot
from restcounts.moduli import prime_power
from restcounts.powers import Powers, powers_of, powers_text
from restcounts.tables import Tables, is_steady, jumped, plus, tables_of

NO_TRIPLES = NO_ROWS + ((), (1,), (1, 2), (1, 2, 3, 4), (1, 2, True), [1, 2, None], (1, 2.0, 3), "123")
# Steps and corners, in one, two and three letters.
BOXES = (
    ("x + x^-1", (0, 0, 0), (0, 0, 0)), ("x + x^-1", (-2, 0, 0), (3, 0, 0)), ("x + 1 + 2*x^-1", (-1, 0, 0), (2, 0, 0)),
    ("3*x - x^-2", (-3, 0, 0), (0, 0, 0)), ("0", (-1, 0, 0), (1, 0, 0)), ("5", (0, 0, 0), (2, 0, 0)),
    ("y^-1 + 1", (0, -1, 0), (0, 3, 0)), ("x + x^-1 + y + y^-1", (-1, -1, 0), (1, 1, 0)),
    ("x*y + y^-1 - 1", (0, -1, 0), (1, 2, 0)), ("x + y + z + x^-1*y^-1*z^-1", (-1, 0, 0), (0, 1, 1)))


def box(low, high):
    return list(product(*[range(a, b + 1) for a, b in zip(low, high)]))


def moduli_for(steps):
    return MODULI if "y" not in steps or "x" not in steps else (2, 4, 3, 5) if "z" not in steps else (2, 3, 7)


def many_for(steps):
    return 100 if "z" in steps else 40 if "y" in steps else 120


def rests_in(steps, low, high, m):
    """The rows of rests for all powers of a box, for n = 0, 1, .."""
    many = many_for(steps)
    columns = []
    for power in box(low, high):
        if "z" in steps:
            # So many walks in three letters take too long to be counted one by one.
            tables = tables_of(walk_with(steps, [power], [1]), m)
            columns.append([tables.at(n) for n in range(many)])
        else:
            columns.append(walk_rests(powers_of(steps), Powers([(power, 1)]), many, m))
    return list(zip(*columns))


def walk_with(steps, powers, numbers):
    return Count(f"walk[{steps}; {powers_text(Powers(list(zip(powers, numbers))))}]")


class Relations(unittest.TestCase):

    def test_end_relations_against_rests(self):
        for steps, low, high in BOXES:
            for m in moduli_for(steps):
                told = end_relations(powers_of(steps), low, high, m)
                powers = box(low, high)
                self.assertIs(type(told), Lot)
                self.assertEqual((told.m, told.width), (m, len(powers)))
                values = Lot(m, len(powers), rests_in(steps, low, high, m))
                for row in told.rows:
                    self.assertFalse(any(sum(a * b for a, b in zip(row, other)) % m for other in values.rows))
                # There are no others, as all rows and the relations among them fill all there is.
                self.assertEqual(told.size * values.size, m ** len(powers), (steps, m))
                self.assertEqual(end_relations(powers_of(steps), list(low), list(high), m), told)

    def test_reasons(self):
        square = powers_of("x + x^-1 + y + y^-1")
        for m in (2, 9, 7):
            told = end_relations(square, (-1, -1, 0), (1, 1, 0), m)
            # The powers are those with exponents (-1, -1), (-1, 0), (-1, 1), (0, -1), .., ascending.
            self.assertTrue((1, 0, -1, 0, 0, 0, 0, 0, 0) in told)
            self.assertTrue((0, 1, 0, 0, 0, 0, 0, -1, 0) in told)
            self.assertTrue((0, 1, 0, 1, 0, -1, 0, -1, 0) in told)
            self.assertFalse((0, 0, 0, 0, 1, 0, 0, 0, 0) in told)
            # Points that are never reached, and twofold steps.
            self.assertEqual(end_relations(powers_of("x^2"), (1, 0, 0), (1, 0, 0), m), Lot(m, 1, [(1,)]))
            self.assertEqual(end_relations(powers_of("x^2"), (-3, 0, 0), (-2, 0, 0), m), Lot(m, 2, [(1, 0)]))
            self.assertEqual(end_relations(powers_of("1"), (0, 0, 0), (0, 0, 1), m), Lot(m, 2, [(0, 1)]))

    def test_ends_for(self):
        chance = random.Random(130)
        for steps, low, high in BOXES:
            powers = box(low, high)
            for m in moduli_for(steps):
                numbers = [chance.randrange(-m, m) for _ in powers]
                count = walk_with(steps, powers, numbers)
                told = ends_for(powers_of(steps), low, high, count, m)
                self.assertIs(type(told), tuple)
                self.assertTrue(all(type(number) is int and 0 <= number < m for number in told))
                self.assertEqual(len(told), len(powers))
                self.assertIs(type(alike(walk_with(steps, powers, told), count, m)), Alike)
                change = [a - b for a, b in zip(told, numbers)]
                self.assertTrue(change in end_relations(powers_of(steps), low, high, m))

    def test_ends_for_counts_of_other_kinds(self):
        one = powers_of("x + x^-1")
        for m in MODULI:
            told = ends_for(one, (-1, 0, 0), (1, 0, 0), Count("next[walk[x + x^-1]]"), m)
            self.assertIs(type(alike(walk_with("x + x^-1", box((-1, 0, 0), (1, 0, 0)), told),
                                     Count("next[walk[x + x^-1]]"), m)), Alike)
            # Modulo 2 all values but the first one are 0.
            self.assertEqual(ends_for(one, (0, 0, 0), (0, 0, 0), Count("next[walk[x + x^-1]]"), m),
                             (0,) if m == 2 else None)
            self.assertIsNone(ends_for(one, (-1, 0, 0), (1, 0, 0), Count("1"), m))
            self.assertEqual(ends_for(powers_of("1"), (0, 0, 0), (0, 1, 0), Count("5"), m)[0], 5 % m)
            self.assertEqual(ends_for(one, (0, 0, 0), (0, 0, 0), Count("0"), m), (0,))
        self.assertIsNone(ends_for(powers_of("1"), (1, 0, 0), (2, 0, 0), Count("5"), 7))
        self.assertEqual(ends_for(powers_of("2*x^-1"), (0, 0, 0), (3, 0, 0), Count("walk[2*x; x^-2]"), 25)[2], 1)
        # Some row of numbers is enough, and it may be one with a multiple of p alone.
        self.assertIsNone(ends_for(powers_of("1"), (0, 0, 0), (0, 0, 0), Count("sum[1]"), 4))


class AlikeEnds(unittest.TestCase):

    def test_against_rests(self):
        chance = random.Random(131)
        others = ("x + x^-1", "x + 1 + 2*x^-1", "x^2 + x^-1", "y + y^-1", "1", "0")
        for steps, low, high in BOXES:
            for m in moduli_for(steps):
                for other in (steps, powers_text(powers_of(steps) + m * powers_of("x - 1")), chance.choice(others),
                              powers_text(powers_of(steps) + powers_of("x"))):
                    self.check(steps, other, low, high, m)

    def check(self, one, other, low, high, m):
        told = alike_ends(powers_of(one), powers_of(other), low, high, m)
        many = min(many_for(one), many_for(other))
        rows, rows2 = rests_in(one, low, high, m)[:many], rests_in(other, low, high, m)[:many]
        wanted = next(((n, power) for n in range(many) for power, a, b in
                       zip(box(low, high), rows[n], rows2[n]) if a != b), None)
        if wanted is None:
            self.assertTrue(told is None or told[0] >= many, (one, other, m))
        else:
            self.assertEqual(told, wanted)
            self.assertIs(type(told), tuple)

    def test_the_first_power_of_the_box(self):
        one, other = powers_of("x + x^-1"), powers_of("x + x^-1 + y")
        for m in MODULI:
            self.assertEqual(alike_ends(one, other, (-2, -2, 0), (2, 2, 0), m), (1, (0, -1, 0)))
            # Where no y is taken back, no step y is made.
            self.assertIsNone(alike_ends(one, other, (-2, 0, 0), (2, 0, 0), m))
            self.assertEqual(alike_ends(one, other, [-2, -2, 0], [2, -2, 0], m), (2, (0, -2, 0)))
        self.assertEqual(alike_ends(powers_of("x"), powers_of("x + 4"), (-2, 0, 0), (2, 0, 0), 7), (1, (0, 0, 0)))
        self.assertEqual(alike_ends(powers_of("x"), powers_of("x + 4*x^2"), (-4, 0, 0), (2, 0, 0), 7),
                         (1, (-2, 0, 0)))

    def test_late_differences(self):
        for m, place in ((2, 6), (27, 8), (7, 5)):
            one, other = powers_of("x + y"), powers_of("x + 2*y")
            # y is met at the end y^-place alone, so at place for the first time.
            told = alike_ends(one, other, (0, -place, 0), (0, -place, 0), m)
            self.assertEqual(told, (place, (0, -place, 0)) if (2 ** place - 1) % m else None)
        self.assertIsNone(alike_ends(powers_of("3*x"), powers_of("x"), (0, 0, 0), (8, 0, 0), 25))
        self.assertIsNone(alike_ends(powers_of("x + 2*x^-1"), powers_of("x"), (0, 0, 0), (0, 0, 0), 2))


class Errors(unittest.TestCase):

    def actions(self):
        one = powers_of("x + x^-1")
        yield lambda low, high, m: end_relations(one, low, high, m)
        yield lambda low, high, m: ends_for(one, low, high, Count("1"), m)
        yield lambda low, high, m: alike_ends(one, one, low, high, m)

    def error_of(self, error, action, *arguments):
        with self.assertRaises(error) as caught:
            action(*arguments)
        return caught.exception

    def test_errors_in_their_order(self):
        for action in self.actions():
            for m in NO_MODULI:
                error = self.error_of(BadNumber, action, None, None, m)
                self.assertEqual(error.what, "modulus")
                self.assertIs(error.number, m)
            for wrong in NO_TRIPLES:
                for high in (None, (0, 0, 0)):
                    self.assertIs(self.error_of(BadRow, action, wrong, high, 4).row, wrong)
                self.assertIs(self.error_of(BadRow, action, (0, 0, 0), wrong, 4).row, wrong)
                self.assertIs(self.error_of(BadRow, action, [500, 0, 0], wrong, 4).row, wrong)
            for low, high in (((1, 0, 0), (0, 0, 0)), ((0, 1, 0), (500, 0, 0)), ((0, 0, 1), [9, 500, 0]),
                              ((0, 0, 10 ** 60), (10 ** 60, 0, 0))):
                self.assertEqual(self.error_of(Unlike, action, low, high, 4).what, "corners")
            for low, high in (((0, 0, 0), (400, 0, 0)), ((0, 0, 0), (20, 19, 0)), ((0, 0, 0), (7, 7, 6)),
                              ((-10 ** 60, 0, 0), (10 ** 60, 0, 0)), ([0, 0, 0], [0, 0, 400])):
                error = self.error_of(TooMany, action, low, high, 4)
                self.assertEqual((error.what, error.limit), ("powers", 400))

    def test_boxes_of_four_hundred_powers(self):
        one = powers_of("x + x^-1 + y + y^-1")
        for low, high in (((0, 0, 0), (19, 19, 0)), ((-9, -9, 0), (10, 10, 0)), ((0, 0, 0), (399, 0, 0)),
                          ((0, 0, 0), (0, 0, 399)), ((0, 0, 0), (9, 9, 3))):
            for m in (2, 3):
                told = end_relations(one, low, high, m)
                self.assertEqual(told.width, 400)
                row = ends_for(one, low, high, Count("walk[x + x^-1 + y + y^-1]"), m)
                self.assertEqual(len(row), 400)
                self.assertIsNone(alike_ends(one, one, low, high, m))


class Sizes(unittest.TestCase):

    def test_greatest_sizes_end_in_seconds(self):
        begin = time.monotonic()
        chance = random.Random(132)

        def steps(reach, many, letters):
            return Powers([([chance.randrange(-reach, reach + 1) if at < letters else 0 for at in range(3)],
                            chance.randrange(1, 5)) for _ in range(many)])
        for m, reach, letters in ((2, 10, 1), (3, 10, 1), (5, 10, 1), (7, 10, 1), (4, 5, 1), (8, 2, 1), (9, 3, 1),
                                  (25, 2, 1), (16, 1, 1), (27, 1, 1), (2, 4, 2), (7, 4, 2), (4, 2, 2), (9, 1, 2),
                                  (8, 1, 2), (7, 1, 3), (2, 1, 3)):
            side = {1: 8, 2: 4, 3: 1}[letters]
            high = tuple(side if at < letters else 0 for at in range(3))
            low = tuple(-e for e in high)
            one = steps(reach, 6, letters)
            powers = box(low, high)
            numbers = [chance.randrange(m) for _ in powers]
            count = Count(f"walk[{powers_text(one)}; {powers_text(Powers(list(zip(powers, numbers))))}]")
            known = end_relations(one, low, high, m)
            told = ends_for(one, low, high, count, m)
            self.assertTrue([a - b for a, b in zip(told, numbers)] in known)
            self.assertIsNone(alike_ends(one, one + m * powers_of("x"), low, high, m))
            n, power = alike_ends(one, one + 1, low, high, m)
            ends = Powers([(power, 1)])
            rests, rests2 = [walk_rests(steps, ends, n + 1, m) for steps in (one, one + 1)]
            self.assertEqual(rests[:n], rests2[:n])
            self.assertNotEqual(rests[n], rests2[n])
        self.assertLess(time.monotonic() - begin, 60)


class Turned(unittest.TestCase):

    def samples(self):
        chance = random.Random(133)
        for m in MODULI:
            p, _ = prime_power(m)
            for size in range(5):
                yield Tables(m, *random_parts(chance, m, size))
                yield Tables(m, *steady_parts(chance, m, size, p))
            yield tables_of(Count("walk[x + 1 + x^-1] + sum[1]"), m)

    def test_words_from_behind(self):
        for tables in self.samples():
            p, _ = prime_power(tables.m)
            told = turned(tables)
            self.assertIs(type(told), Tables)
            self.assertEqual(told.m, tables.m)
            for word in words(p, 6 if p == 2 else 3):
                self.assertEqual(told.along(word), tables.along(word[::-1]))
                self.assertEqual(turned(told).along(word), tables.along(word))

    def test_symmetric(self):
        seen = {True: 0, False: 0}
        for tables in self.samples():
            p, _ = prime_power(tables.m)
            told = symmetric(tables)
            most = 7 if p == 2 else 4 if p == 3 else 3
            wanted = next((word for word in words(p, most) if tables.along(word) != tables.along(word[::-1])), None)
            seen[told is None] += 1
            if wanted is None:
                self.assertTrue(told is None or len(told) > most)
            else:
                self.assertEqual(told, wanted)
                self.assertIs(type(told), tuple)
        self.assertGreater(min(seen.values()), 20)

    def test_symmetric_for_a_reason(self):
        for m in MODULI:
            p, _ = prime_power(m)
            # Values that are multiplied digit by digit do not depend on the order of the digits.
            self.assertIsNone(symmetric(Tables(m, (3,), [((d + 1,),) for d in range(p)], (1,))))
            self.assertIsNone(symmetric(Tables(m, (), ((),) * p, ())))
            tables = Tables(m, (1, 0), [((1, d), (0, 1)) for d in range(p)], (0, 1))
            self.assertIsNone(symmetric(tables))
            self.assertIsNone(symmetric(plus(tables, turned(tables))))
            self.assertEqual(symmetric(tables_of(Count("sum[1]"), m)), (0, 1))
        for p in (2, 3, 5, 7):
            self.assertIsNone(symmetric(tables_of(Count("walk[x + 1 + x^-1]"), p)))

    def test_the_first_one_of_the_words_with_fewest_digits(self):
        # 1 at the word (2, 0, 1) alone, which ascends ahead of no other but its own (1, 0, 2).
        for word, wanted in (((2, 0, 1), (1, 0, 2)), ((0, 1, 2, 1), (0, 1, 2, 1)), ((1, 1, 0), (0, 1, 1)),
                             ((2, 1), (1, 2)), ((2, 2, 2, 1, 2), (2, 1, 2, 2, 2)), ((1, 2, 1), None)):
            size = len(word) + 1
            moves = [[[int(j == i + 1 and i < len(word) and word[i] == digit) for j in range(size)]
                      for i in range(size)] for digit in range(3)]
            tables = Tables(9, [1] + [0] * (size - 1), moves, [0] * (size - 1) + [1])
            self.assertEqual(tables.along(word), 1)
            self.assertIs(is_steady(tables), False)
            self.assertEqual(symmetric(tables), wanted)

    def test_greatest_sizes_end_in_seconds(self):
        begin = time.monotonic()
        chance = random.Random(134)
        for m in MODULI:
            tables = Tables(m, *random_parts(chance, m, 40))
            word = symmetric(tables)
            self.assertNotEqual(tables.along(word), tables.along(word[::-1]))
            self.assertIsNone(symmetric(plus(tables, turned(tables))))
        tables = jumped(tables_of(Count("walk[x^3 + x^-2 + 1]"), 7), 20, 60)
        word = symmetric(tables)
        self.assertNotEqual(tables.along(word), tables.along(word[::-1]))
        self.assertLess(time.monotonic() - begin, 60)


if __name__ == "__main__":
    unittest.main()
