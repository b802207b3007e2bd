"""[8] kernel and multiples."""

import copy
import random
import unittest

from plain_lots import all_rows, form_of, made_by, sum_of_multiples
from restcounts.errors import BadNumber, BadRow, TooMany
from restcounts.lots import Lot, kernel, multiples

MODULI = (2, 4, 8, 16, 3, 9, 27, 5, 25, 7)


def samples():
    """Moduli, widths and rows, few enough rows to try all multiples of them."""
    chance = random.Random(30)
    most = {2: 6, 4: 4, 8: 3, 16: 2, 3: 4, 9: 3, 27: 2, 5: 3, 25: 2, 7: 3}
    for m in MODULI:
        p = next(p for p in (2, 3, 5, 7) if m % p == 0)
        for width in (0, 1, 2, 3):
            for many in range(most[m] + 1):
                for factor in (1, p):
                    rows = [[factor ** chance.randrange(2) * chance.randrange(-m, m)
                             for _ in range(width)] for _ in range(many)]
                    yield m, width, rows


class Kernels(unittest.TestCase):

    def test_against_all_multiples(self):
        for m, width, rows in samples():
            with self.subTest(m=m, width=width, rows=rows):
                zeros = (0,) * width
                plain = {numbers for numbers in all_rows(m, len(rows))
                         if sum_of_multiples(m, width, numbers, rows) == zeros}
                found = kernel(m, width, rows)
                self.assertIs(type(found), Lot)
                self.assertEqual((found.m, found.width), (m, len(rows)))
                self.assertEqual(found.size, len(plain))
                self.assertEqual(found.rows, form_of(plain, len(rows)))

    def test_rows_that_do_not_depend_on_each_other(self):
        self.assertEqual(kernel(7, 3, [(1, 2, 3), (0, 1, 4)]), Lot(7, 2))
        self.assertEqual(kernel(4, 2, [(1, 1), (0, 2)]), Lot(4, 2, [(0, 2)]))

    def test_rows_that_depend_on_each_other(self):
        self.assertEqual(kernel(9, 2, [(1, 2), (2, 4)]), Lot(9, 2, [(-2, 1)]))
        self.assertEqual(kernel(4, 1, [(2,), (1,)]), Lot(4, 2, [(1, 2)]))
        self.assertEqual(kernel(8, 1, [[4]]), Lot(8, 1, [(2,)]))

    def test_no_rows_and_width_zero(self):
        for m in MODULI:
            self.assertEqual(kernel(m, 3, []), Lot(m, 0))
            self.assertEqual(kernel(m, 0, ()), Lot(m, 0))
            unit = [(1, 0, 0), (0, 1, 0), (0, 0, 1)]
            self.assertEqual(kernel(m, 0, [(), [], ()]), Lot(m, 3, unit))
            self.assertEqual(kernel(m, 2, [(0, 0), (m, -m), [0, m]]), Lot(m, 3, unit))


class Multiples(unittest.TestCase):

    def check(self, m, width, rows, row):
        found = multiples(m, width, rows, row)
        self.assertIs(type(found), tuple)
        self.assertEqual(len(found), len(rows))
        self.assertTrue(all(type(number) is int and 0 <= number < m for number in found))
        self.assertEqual(sum_of_multiples(m, width, found, rows), tuple(a % m for a in row))

    def test_against_all_multiples(self):
        chance = random.Random(31)
        for m, width, rows in samples():
            with self.subTest(m=m, width=width, rows=rows):
                plain = made_by(m, width, rows)
                for row in chance.choices(list(all_rows(m, width)), k=12):
                    shifted = [a + m * chance.choice((-2, 0, 10 ** 60)) for a in row]
                    if row in plain:
                        self.check(m, width, rows, shifted)
                    else:
                        self.assertIsNone(multiples(m, width, rows, shifted))
                for row in chance.choices(sorted(plain), k=5):
                    self.check(m, width, rows, row)

    def test_no_rows_and_width_zero(self):
        for m in MODULI:
            self.assertEqual(multiples(m, 2, [], (0, m)), ())
            self.assertIsNone(multiples(m, 2, (), (0, 1)))
            self.assertEqual(multiples(m, 0, [], ()), ())
            self.check(m, 0, [(), ()], [])

    def test_a_row_that_only_a_multiple_reaches(self):
        self.check(4, 2, [(2, 1)], (0, 2))
        self.assertIsNone(multiples(4, 2, [(2, 1)], (0, 1)))
        self.assertIsNone(multiples(4, 2, [(2, 1)], (1, 0)))

    def test_equal_calls_tell_the_same(self):
        rows = [(1, 2, 3), (2, 4, 6), (4, 4, 4)]
        self.assertEqual(multiples(8, 3, rows, (3, 6, 9)), multiples(8, 3, rows, (3, 6, 9)))


class Large(unittest.TestCase):

    def test_a_hundred_rows_of_width_a_hundred(self):
        chance = random.Random(32)
        for m in MODULI:
            rows = [[chance.randrange(m) for _ in range(100)] for _ in range(70)]
            for _ in range(30):
                one, other = chance.choices(rows, k=2)
                rows.append([a + 3 * b for a, b in zip(one, other)])
            found = kernel(m, 100, rows)
            self.assertEqual(found.width, 100)
            for numbers in found.rows:
                self.assertEqual(sum_of_multiples(m, 100, numbers, rows), (0,) * 100)
            # So many tuples of numbers there are for each row that is made.
            self.assertEqual(found.size * Lot(m, 100, rows).size, m ** 100)
            numbers = [chance.randrange(m) for _ in rows]
            row = sum_of_multiples(m, 100, numbers, rows)
            told = multiples(m, 100, rows, row)
            self.assertEqual(sum_of_multiples(m, 100, told, rows), row)
            self.assertTrue([a - b for a, b in zip(told, numbers)] in found)
            outside = next(tuple(int(i == j) for i in range(100)) for j in range(100)
                           if tuple(int(i == j) for i in range(100)) not in Lot(m, 100, rows))
            self.assertIsNone(multiples(m, 100, rows, outside))

    def test_greatest_sums(self):
        # At each of the 400 places the row of this place is taken off once, which adds the
        # product of the two highest rests to all places behind it.
        for m in (16, 27):
            rows = [[0] * at + [1] + [m - 1] * (399 - at) for at in range(400)]
            row = tuple((1 - at) % m for at in range(400))
            told = multiples(m, 400, rows, row)
            self.assertEqual(sum_of_multiples(m, 400, told, rows), row)

    def test_four_hundred_rows(self):
        rows = [(at % 5, 1) for at in range(400)]
        found = kernel(4, 2, rows)
        self.assertEqual(found.width, 400)
        self.assertEqual(found.size * Lot(4, 2, rows).size, 4 ** 400)
        told = multiples(4, 2, rows, (3, 2))
        self.assertEqual(sum_of_multiples(4, 2, told, rows), (3, 2))
        self.assertEqual(kernel(2, 0, [()] * 400).least, 400)


class Errors(unittest.TestCase):

    def error_of(self, error, function, *arguments):
        with self.assertRaises(error) as caught:
            function(*arguments)
        return caught.exception

    def both(self, error, m, width, rows, row):
        yield self.error_of(error, kernel, m, width, rows)
        yield self.error_of(error, multiples, m, width, rows, row)

    def test_errors_of_lot_come_first(self):
        many = [(1, 2)] * 401
        for m in (0, 1, 6, 32, -2, True, "2", None, 2.0):
            for error in self.both(BadNumber, m, -1, many + [None], None):
                self.assertEqual(error.what, "modulus")
                self.assertIs(error.number, m)
        for width in (-1, 401, True, None, "1", 2.0):
            for error in self.both(BadNumber, 4, width, many + [None], None):
                self.assertEqual(error.what, "width")
                self.assertIs(error.number, width)
        for row in ((1,), (1, 2, 3), [1, False], "12", None, 3):
            for error in self.both(BadRow, 4, 2, many + [row, (1, "x")], None):
                self.assertIs(error.row, row)

    def test_too_many_rows(self):
        for rows in ([(1, 2)] * 401, ((1, 2),) * 500, [()] * 401):
            for error in self.both(TooMany, 4, len(rows[0]), rows, None):
                self.assertEqual((error.what, error.limit), ("rows", 400))

    def test_the_row_comes_last(self):
        for row in ((1,), (1, 2, 3), (), [1, True], (1, 2.0), "12", None, 12, {1: 2, 2: 1}):
            self.assertIs(self.error_of(BadRow, multiples, 4, 2, [(1, 2)], row).row, row)
            self.assertIs(self.error_of(BadRow, multiples, 4, 2, [], row).row, row)

    def test_what_is_handed_in_stays_as_it_was(self):
        rows = [[1, -2], (3, 4), [10 ** 60, 0]]
        row = [7, -7]
        before = copy.deepcopy((rows, row))
        found = kernel(9, 2, rows)
        told = multiples(9, 2, rows, row)
        self.assertEqual((rows, row), before)
        rows[0][0] = 5
        rows.append([1, 1])
        self.assertEqual(found, kernel(9, 2, before[0]))
        self.assertEqual(sum_of_multiples(9, 2, told, before[0]), (7, 2))


if __name__ == "__main__":
    unittest.main()
