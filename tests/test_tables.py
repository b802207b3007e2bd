"""[20], [21], [22], [23], [24] tables of digits."""

import copy
import random
import time
import unittest

from plain_counts import (
    MODULI, NO_MODULI, NO_NUMBERS, NO_ROWS, fold_of, jump, next_of, number, random_parts, step_of, sum_of,
    value_along, walk, word_of, words)
from restcounts.counts import Count
from restcounts.errors import BadNumber, BadRow
from restcounts.moduli import prime_power
from restcounts.tables import Tables, is_steady, rest_at, tables_of

FAR = (10 ** 60, 10 ** 60 - 1, 2 ** 199 + 1, 3 ** 100, 5 ** 80 + 7 ** 60, 123456789012345678901234567890)


class Objects(unittest.TestCase):

    def test_numbers_are_rests_and_lists_may_stand_for_tuples(self):
        chance = random.Random(80)
        for m in MODULI:
            for size in range(4):
                first, moves, ends = random_parts(chance, m, size)

                def large(row):
                    return [number + m * chance.choice((0, -1, 10 ** 60)) for number in row]
                tables = Tables(m, large(first), [[large(row) for row in table] for table in moves], large(ends))
                self.assertEqual((tables.m, tables.first, tables.moves, tables.ends, tables.size),
                                 (m, first, moves, ends, size))
                for one in (tables.first, tables.moves, tables.ends, *tables.moves, *tables.moves[0]):
                    self.assertIs(type(one), tuple)

    def test_lists_that_are_changed_behind_the_call(self):
        first, moves, ends = [1, 2], [[[1, 0], [1, 1]], [[0, 1], [3, 1]]], [2, 3]
        before = copy.deepcopy((first, moves, ends))
        tables = Tables(4, first, moves, ends)
        self.assertEqual((first, moves, ends), before)
        value = tables.along([0, 1, 1])
        first[0], moves[0][0][0], moves[1], ends[1] = 0, 3, [], 0
        first.append(1)
        self.assertEqual((tables.first, tables.moves[0], tables.ends), ((1, 2), ((1, 0), (1, 1)), (2, 3)))
        self.assertEqual(tables.along([0, 1, 1]), value)

    def test_values(self):
        chance = random.Random(81)
        for m in MODULI:
            p, _ = prime_power(m)
            for size in range(4):
                first, moves, ends = random_parts(chance, m, size)
                tables = Tables(m, first, moves, ends)
                for word in [w for w in words(p, 5) if chance.random() < 0.3]:
                    self.assertEqual(tables.along(word), value_along(m, first, moves, ends, word))
                    self.assertEqual(tables.along(list(word)), tables.along(word))
                for n in list(range(40)) + [10 ** 60]:
                    self.assertEqual(tables.at(n), value_along(m, first, moves, ends, word_of(n, p)))

    def test_words_with_zeros_at_their_ends(self):
        tables = Tables(4, (1, 0), (((0, 1), (0, 1)), ((1, 0), (0, 1))), (1, 2))
        self.assertEqual([tables.along(word) for word in ((), (0,), (0, 0), (1,), (1, 0), [1, 1])],
                         [1, 2, 2, 1, 2, 1])
        self.assertEqual([tables.at(n) for n in (0, 1, 2, 3)], [1, 1, 2, 1])

    def test_tables_of_size_zero(self):
        for m in MODULI:
            p, _ = prime_power(m)
            for empty in ((), []):
                tables = Tables(m, empty, [empty] * p, empty)
                self.assertEqual((tables.size, tables.first, tables.moves, tables.ends), (0, (), ((),) * p, ()))
                self.assertEqual((tables.at(0), tables.at(10 ** 60), tables.along((1, 0))), (0, 0, 0))
                self.assertIs(is_steady(tables), True)

    def test_numbers_with_many_digits(self):
        tables = tables_of(Count("sum[1]"), 7)
        for n in (10 ** 300, 7 ** 2000 + 5, 7 ** 2000 - 1):
            self.assertEqual(tables.at(n), n % 7)

    def test_methods_stand_in_the_class_itself(self):
        for name in ("__init__", "at", "along"):
            self.assertIn(name, vars(Tables))


class Errors(unittest.TestCase):

    def error_of(self, error, action):
        with self.assertRaises(error) as caught:
            action()
        return caught.exception

    def bad_row(self, row, *arguments):
        self.assertIs(self.error_of(BadRow, lambda: Tables(*arguments)).row, row)

    def test_each_error_at_each_place_the_first_one_first(self):
        row, table = (1, 2), ((1, 0), (0, 1))
        good = (9, row, (table, table, table), row)
        Tables(*good)
        for m in NO_MODULI:
            error = self.error_of(BadNumber, lambda: Tables(m, None, None, None))
            self.assertEqual(error.what, "modulus")
            self.assertIs(error.number, m)
        for first in NO_ROWS:
            self.bad_row(first, 9, first, None, None)
        for moves in NO_ROWS + ((), (table,), (table, table), (table,) * 4, table, {0: table, 1: table, 2: table}):
            if not isinstance(moves, tuple) or len(moves) != 3:
                self.bad_row(moves, 9, row, moves, None)
        for at in range(3):
            for wrong in NO_ROWS + ((), (row,), (row, row, row), {0: row, 1: row}):
                if not isinstance(wrong, (tuple, list)) or len(wrong) != 2:
                    moves = [table] * at + [wrong] + [None] * (2 - at)
                    self.bad_row(wrong, 9, row, moves, None)
            for place in range(2):
                for wrong in NO_ROWS + ((), (1,), [1, 2, 3]):
                    moves = [table] * at + [[row] * place + [wrong] + [None] * (1 - place)] + [None] * (2 - at)
                    self.bad_row(wrong, 9, row, moves, None)
        for ends in NO_ROWS + ((), (1,), (1, 2, 3)):
            self.bad_row(ends, 9, row, (table, table, table), ends)
        # A row stands where a table should, and a table has a row too many.
        self.assertEqual(self.error_of(BadRow, lambda: Tables(2, row, ((1, 2), table), row)).row, 1)
        self.assertEqual(self.error_of(BadRow, lambda: Tables(2, (), ((), ((),)), ())).row, ((),))

    def test_at_and_along(self):
        tables = tables_of(Count("sum[1]"), 3)
        for n in NO_NUMBERS:
            error = self.error_of(BadNumber, lambda: tables.at(n))
            self.assertEqual(error.what, "n")
            self.assertIs(error.number, n)
        for word in NO_ROWS + ((3,), (0, -1), [1, 3], (10 ** 60,), ((0,),)):
            self.assertIs(self.error_of(BadRow, lambda: tables.along(word)).row, word)

    def test_tables_of_and_rest_at(self):
        count = Count("sum[1]")
        for m in NO_MODULI:
            for action in (lambda: tables_of(count, m), lambda: rest_at(count, 5, m)):
                error = self.error_of(BadNumber, action)
                self.assertEqual(error.what, "modulus")
                self.assertIs(error.number, m)
            for n in NO_NUMBERS:
                error = self.error_of(BadNumber, lambda: rest_at(count, n, m))
                self.assertEqual(error.what, "n")
                self.assertIs(error.number, n)


class Steady(unittest.TestCase):

    def test_against_all_words(self):
        chance = random.Random(82)
        seen = {True: 0, False: 0}
        for _ in range(400):
            m = chance.choice(MODULI[:6])
            p, k = prime_power(m)
            size = chance.randrange(4)
            first, moves, ends = random_parts(chance, m, size, chance.choice((1, 1, p)))
            if chance.random() < 0.6 and size:
                # A digit 0 that leads rows to themselves, in part or wholly, or up to a multiple.
                unit = [tuple(int(i == j) for i in range(size)) for j in range(size)]
                moves = (tuple(unit),) + moves[1:]
            tables = Tables(m, first, moves, ends)
            # So many digits are enough to reach all rows up to sums of multiples.
            steady = all(value_along(m, first, moves, ends, word) == value_along(m, first, moves, ends, word + (0,))
                         for word in words(p, min(k * size, 6 if p == 2 else 4)))
            self.assertIs(is_steady(tables), steady)
            seen[steady] += 1
        self.assertGreater(min(seen.values()), 25)

    def test_unlike_only_behind_several_digits(self):
        # A chain: behind four digits 1 a row is met for which a digit 0 changes the value.
        size = 6
        zero = [tuple(int(i == j) for i in range(size)) for j in range(size)]
        one = [tuple(int(i == j + 1) for i in range(size)) for j in range(size)]
        for last, steady in (((0, 0, 0, 0, 1, 0), True), ((0, 0, 0, 0, 0, 1), False)):
            tables = Tables(2, (1, 0, 0, 0, 0, 0), (zero[:4] + [last, zero[5]], one), (0, 0, 0, 0, 0, 1))
            self.assertIs(is_steady(tables), steady)
            self.assertEqual([tables.along((1,) * 4 + (0,) * zeros) for zeros in (0, 1)], [0, 0 if steady else 1])

    def test_ends_that_change_by_a_multiple_of_p_alone(self):
        for m in (4, 9, 27, 25):
            p, k = prime_power(m)
            for t in range(k + 1):
                tables = Tables(m, (1,), [((1 + p ** t,),)] + [((1,),)] * (p - 1), (1,))
                self.assertIs(is_steady(tables), t == k)

    def test_rows_that_are_not_reached_do_not_count(self):
        tables = Tables(4, (1, 0), [((1, 0), (0, 0))] * 2, (1, 1))
        self.assertIs(is_steady(tables), True)
        self.assertIs(is_steady(Tables(4, (1, 1), tables.moves, (1, 1))), False)

    def test_large_ones(self):
        begin = time.monotonic()
        tables = tables_of(Count("walk[x^10+x^-9+2*x^3+1] * walk[x^2+x^-2+x-1]"), 7)
        self.assertIs(is_steady(tables), True)
        changed = Tables(7, tables.first, tables.moves, [end + 1 for end in tables.ends])
        self.assertIs(is_steady(changed), is_steady(changed))
        self.assertLess(time.monotonic() - begin, 60)


WALKS = (
    ("x + x^-1", "1"), ("x + 1 + x^-1", "1"), ("2*x - x^-1 + 1", "x^-3 + 2"), ("x", "x^-4"), ("-x^-1", "x^9 - x"),
    ("0", "1"), ("0", "x"), ("5", "1"), ("x + y", "x^-2*y^-1"), ("x + x^-1 + y + y^-1", "1"),
    ("x*y - y^-1 + x^-1 + 2", "x + y^-2 + 1"), ("x + y + z + x^-1*y^-1*z^-1", "1"), ("z - x + x^-1*z^-1", "y + z + 1"))


class Told(unittest.TestCase):

    def check(self, plain, m, many=45):
        count = Count(plain.text)
        tables = tables_of(count, m)
        self.assertIs(type(tables), Tables)
        self.assertEqual(tables.m, m)
        self.assertIs(is_steady(tables), True)
        wanted = [plain.at(n) % m for n in range(many)]
        self.assertEqual([tables.at(n) for n in range(many)], wanted, (plain.text, m))
        p, _ = prime_power(m)
        for n in range(0, many, 7):
            self.assertEqual(tables.along(word_of(n, p) + (0, 0, 0)), wanted[n])
            self.assertEqual(rest_at(count, n, m), wanted[n])

    def test_walks_modulo_all_moduli(self):
        for steps, ends in WALKS:
            plain = walk(steps, ends, 30 if "y" in steps + ends else 60)
            for m in MODULI:
                self.check(plain, m, 20 if "z" in steps + ends else 30 if "y" in steps + ends else 60)

    def test_each_word_modulo_all_moduli(self):
        one, other = walk("x + 1 + x^-1", many=200), walk("2*x - x^-1 + 1", "x + 3", many=200)
        for m in MODULI:
            for plain in (number(0), number(17), number(10 ** 40 - 1), -one, one + other, one - other, one * other,
                          next_of(one), step_of(other), sum_of(one), sum_of(sum_of(number(5))), fold_of(one, other),
                          fold_of(number(2), one), jump(1, 0, one), jump(2, 3, other), jump(3, 1, one),
                          step_of(sum_of(other)) * number(3) - next_of(jump(2, 0, one))):
                self.check(plain, m)

    def test_against_first_rests(self):
        for text in ("fold[walk[x+x^-1], walk[x^2-x^-1+1]] * sum[1]", "sum[walk[x+1+x^-1] * walk[x+x^-1]]",
                     "at[7, 23: walk[x+1+x^-1]] - step[step[walk[x+x^-1; x^2]]]"):
            count = Count(text)
            for m in MODULI:
                tables = tables_of(count, m)
                self.assertEqual(tuple(tables.at(n) for n in range(150)), count.first_rests(150, m))

    def test_far_numbers_by_other_ways(self):
        for m in MODULI:
            p, k = prime_power(m)
            for n in FAR:
                for text, wanted in (
                        ("walk[3]", pow(3, n, m)), ("sum[1]", n), ("sum[sum[1]] * 2", n * (n - 1)),
                        ("fold[walk[2], walk[3]]", pow(3, n + 1, m) - pow(2, n + 1, m)),
                        ("walk[x^-1 + 1; x]", n), ("walk[x^-1 + 1; x^2]", n * (n - 1) // 2),
                        ("at[99, 999: sum[1]]", 99 * n + 999), ("step[sum[1]*sum[1]]", 2 * n + 1),
                        ("next[walk[5]]", pow(5, n + 1, m)),
                        ("walk[x + y - 1; 1 + x^-1]", (1 if n % 2 == 0 else -1) * (1 - n))):
                    self.assertEqual(rest_at(Count(text), n, m), wanted % m, (text, m))

    def test_far_central_numbers(self):
        central, trinomial = Count("walk[x + x^-1]"), Count("walk[x + 1 + x^-1]")
        for m in MODULI:
            p, k = prime_power(m)
            tables = tables_of(Count("at[2, 0: walk[x + x^-1]]"), m)
            for n in FAR + tuple(sum(p ** at for at in range(0, 60, gap)) for gap in (7, 13, 25, 40)):
                # p divides the number for the way from 0 back to 0 as often as n + n has carries.
                carries, carry = 0, 0
                for digit in word_of(n, p):
                    carry = 1 if 2 * digit + carry >= p else 0
                    carries += carry
                rest = tables.at(n)
                self.assertEqual(min([t for t in range(k) if rest % p ** (t + 1)], default=k), min(carries, k))
                if k == 1:
                    self.assertEqual(rest, self.product_of_digits(central, n, p, 2) % p)
                    self.assertEqual(rest_at(trinomial, n, p), self.product_of_digits(trinomial, n, p, 1) % p)

    def product_of_digits(self, count, n, p, times):
        product = 1
        for digit in word_of(n, p):
            product *= count.value(times * digit)
        return product

    def test_greatest_sizes_end_in_seconds(self):
        begin = time.monotonic()
        chance = random.Random(83)

        def steps(reach, many, letters=1):
            found = []
            for _ in range(many):
                power = [f"{letter}^{chance.randrange(-reach, reach + 1)}" for letter in "xyz"[:letters]]
                found.append(f"{chance.randrange(1, 4)}*" + "*".join(power))
            return " + ".join(found)
        for text, m in (
                (" + ".join(f"walk[{steps(10, 3)}]" for _ in range(40)), 2),
                (" - ".join(f"walk[{steps(2, 3)}]" for _ in range(20)), 25),
                (" + ".join(f"walk[{steps(1, 3)}]" for _ in range(20)), 27),
                (" + ".join(f"walk[{steps(1, 3)}]" for _ in range(20)), 16),
                (f"walk[{steps(10, 6)}; x^32 - x^-32]", 7), (f"walk[{steps(5, 5)}; x^32 - x^-31]", 4),
                (f"walk[{steps(1, 3)}; x^32 - x^-31]", 16), (f"walk[{steps(4, 9, 2)}; x^4*y^-4 + 1]", 7),
                (f"walk[{steps(2, 9, 2)}; x^4*y^-4 + 1]", 4), (f"walk[{steps(1, 5, 2)}; x^4*y^-4 + 1]", 9),
                (f"walk[{steps(1, 9, 3)}; x*y^-1*z + 1]", 7), (f"walk[{steps(3, 3)}] * walk[{steps(3, 3)}]", 7),
                (f"fold[walk[{steps(4, 3)}], walk[{steps(4, 3)}]]", 5), (f"at[20, 60: walk[{steps(4, 3)}]]", 3),
                (" + ".join(str(i) for i in range(200)), 16)):
            tables = tables_of(Count(text), m)
            self.assertIs(is_steady(tables), True)
            self.assertEqual(tuple(tables.at(n) for n in range(15)), Count(text).first_rests(15, m), text)
            tables.at(10 ** 60)
        self.assertLess(time.monotonic() - begin, 60)


if __name__ == "__main__":
    unittest.main()
