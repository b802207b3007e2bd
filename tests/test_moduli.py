"""[2], [4] moduli and digits."""

import unittest

from restcounts.errors import BadNumber, BadRow
from restcounts.moduli import digits, number_of, prime_power

POWERS = {2: (2, 1), 4: (2, 2), 8: (2, 3), 16: (2, 4), 3: (3, 1), 9: (3, 2), 27: (3, 3),
          5: (5, 1), 25: (5, 2), 7: (7, 1)}
NO_PRIMES = (0, 1, 4, 6, 8, 9, 11, -2, -3, True, False, 2.0, "2", None, (2,), [3], 2 ** 100)
NO_NUMBERS = (-1, -10 ** 60, True, False, 1.0, "1", None, (), [1])


class Moduli(unittest.TestCase):

    def bad_number(self, what, number, function, *arguments):
        with self.assertRaises(BadNumber) as caught:
            function(*arguments)
        self.assertEqual(caught.exception.what, what)
        self.assertIs(caught.exception.number, number)

    def test_all_moduli(self):
        for m, pair in POWERS.items():
            self.assertEqual(prime_power(m), pair)
            self.assertIs(type(prime_power(m)), tuple)
            self.assertEqual(pair[0] ** pair[1], m)

    def test_no_other_number_is_a_modulus(self):
        for m in range(-40, 200):
            if m not in POWERS:
                self.bad_number("modulus", m, prime_power, m)

    def test_no_other_value_is_a_modulus(self):
        for m in (True, False, "2", "", None, 2.0, 4.0, (2,), [2], {2: 1}, {2}, b"2", 2 ** 70,
                  10 ** 6000):
            self.bad_number("modulus", m, prime_power, m)


class Digits(unittest.TestCase):

    bad_number = Moduli.bad_number

    def test_zero_has_no_digits(self):
        for p in (2, 3, 5, 7):
            self.assertEqual(digits(0, p), ())

    def test_low_digit_first(self):
        self.assertEqual(digits(6, 2), (0, 1, 1))
        self.assertEqual(digits(5, 3), (2, 1))
        self.assertEqual(digits(38, 5), (3, 2, 1))
        self.assertEqual(digits(7 * 7 * 3 + 6, 7), (6, 0, 3))
        self.assertIs(type(digits(5, 3)), tuple)

    def test_powers_and_their_neighbours(self):
        for p in (2, 3, 5, 7):
            for e in range(1, 30):
                self.assertEqual(digits(p ** e, p), (0,) * e + (1,))
                self.assertEqual(digits(p ** e - 1, p), (p - 1,) * e)
                self.assertEqual(digits(p ** e + 1, p), (1,) + (0,) * (e - 1) + (1,))

    def test_many_digits_there_and_back(self):
        for p in (2, 3, 5, 7):
            for n in (10 ** 60, 10 ** 60 - 1, 7 ** 300 + 5 ** 200, 12345678901234567890):
                word = digits(n, p)
                self.assertEqual(sum(d * p ** i for i, d in enumerate(word)), n)
                self.assertNotEqual(word[-1], 0)
                self.assertTrue(all(0 <= d < p for d in word))
                self.assertEqual(number_of(word, p), n)

    def test_errors_of_digits(self):
        for n in NO_NUMBERS:
            self.bad_number("n", n, digits, n, 2)
        for p in NO_PRIMES:
            self.bad_number("p", p, digits, 5, p)
            self.bad_number("p", p, digits, 0, p)

    def test_n_comes_ahead_of_p(self):
        for n in NO_NUMBERS:
            self.bad_number("n", n, digits, n, 4)


class NumberOf(unittest.TestCase):

    bad_number = Moduli.bad_number

    def bad_row(self, row, p):
        with self.assertRaises(BadRow) as caught:
            number_of(row, p)
        self.assertIs(caught.exception.row, row)

    def test_words(self):
        self.assertEqual(number_of((0, 1, 1), 2), 6)
        self.assertEqual(number_of([2, 1], 3), 5)
        self.assertEqual(number_of((3, 2, 1), 5), 38)
        self.assertEqual(number_of((6,) * 40, 7), 7 ** 40 - 1)

    def test_empty_word(self):
        for p in (2, 3, 5, 7):
            self.assertEqual(number_of((), p), 0)
            self.assertEqual(number_of([], p), 0)

    def test_zeros_at_the_end_change_nothing(self):
        for p in (2, 3, 5, 7):
            for n in range(200):
                for many in (1, 2, 50):
                    self.assertEqual(number_of(digits(n, p) + (0,) * many, p), n)
                    self.assertEqual(number_of(list(digits(n, p)) + [0] * many, p), n)
            self.assertEqual(number_of((0, 0, 0), p), 0)

    def test_wrong_rows(self):
        for row in ((2,), (0, -1), [1, True], [False], (1.0,), ("1",), "101", "", b"01", None, 5,
                    {0: 1}, {0}, ((1,),), [None], range(2), object()):
            self.bad_row(row, 2)
        for p in (2, 3, 5, 7):
            self.bad_row((0, p), p)
            self.bad_row([p, 0, 0], p)
            self.assertEqual(number_of((p - 1,), p), p - 1)

    def test_p_comes_ahead_of_row(self):
        for p in NO_PRIMES:
            self.bad_number("p", p, number_of, (1,), p)
            self.bad_number("p", p, number_of, "no row", p)

    def test_a_list_stays_as_it_was(self):
        row = [1, 0, 1, 0]
        self.assertEqual(number_of(row, 2), 5)
        self.assertEqual(row, [1, 0, 1, 0])


if __name__ == "__main__":
    unittest.main()
