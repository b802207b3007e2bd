"""[70] to [73] divisibility for all n."""

import time
import unittest

from plain_counts import MODULI, NO_MODULI, word_of
from restcounts.counts import Count
from restcounts.depths import always_divides, depth_machine, least_at, least_not
from restcounts.errors import BadNumber, TooMany
from restcounts.machines import Machine, comes, least_machine, machine_of
from restcounts.moduli import prime_power
from restcounts.residuals import fewest
from restcounts.tables import rest_at

MIDDLE = "at[2, 0: walk[x + x^-1]]"
TEXTS = (MIDDLE, "walk[x + x^-1]", "walk[x + 1 + x^-1]", "sum[1]", "0", "6", "sum[sum[1]]", "walk[x + x^-1 + y + y^-1]",
         "fold[walk[x + x^-1], 1]", "sum[1] * sum[1] + 1", "12 * walk[x + x^-1]", "walk[x; x^-5]", "walk[2]", "walk[6]")


def depth(number, p, k):
    return max(j for j in range(k + 1) if number % p ** j == 0)


def depths_of(count, m, many):
    p, k = prime_power(m)
    return [depth(rest_at(count, n, m), p, k) for n in range(many)]


class Depths(unittest.TestCase):

    def test_against_plain_depths(self):
        sizes = set()
        for m in MODULI:
            p, k = prime_power(m)
            for text in TEXTS:
                count = Count(text)
                plain = depths_of(count, m, 80)
                if (text, m) != ("fold[walk[x + x^-1], 1]", 25):
                    machine = depth_machine(count, m)
                    self.assertIs(type(machine), Machine)
                    self.assertEqual(machine, least_machine(machine))
                    self.assertEqual([machine.at(n) for n in range(80)], plain)
                    for n in (10 ** 60, p ** 70 + 5, 2 * p ** 40 - 1):
                        self.assertEqual(machine.at(n), depth(rest_at(count, n, m), p, k))
                    sizes.add(machine.size)
                    for j in range(k + 1):
                        first = [n for value, n in comes(machine) if value == j]
                        self.assertEqual(least_at(count, m, j), first[0] if first else None)
                for j in range(k + 1):
                    told = least_not(count, m, j)
                    low = [n for n in range(80) if plain[n] < j]
                    if low:
                        self.assertEqual(told, low[0])
                    elif told is not None:
                        self.assertGreaterEqual(told, 80)
                        self.assertLess(depth(rest_at(count, told, m), p, k), j)
                    self.assertEqual(told is None, j <= always_divides(count, m))
                self.assertLessEqual(always_divides(count, m), min(plain))
        self.assertTrue({1, 2, 3, 4, 5} <= sizes)

    def test_carries_of_middle_numbers(self):
        count = Count(MIDDLE)
        for m in MODULI:
            p, k = prime_power(m)
            machine = depth_machine(count, m)
            for n in list(range(200)) + [p ** 50 // 2, 7 ** 60 + 5]:
                carries, carry = 0, 0
                for digit in word_of(n, p):
                    carry = (2 * digit + carry) // p
                    carries += carry
                self.assertEqual(machine.at(n), min(k, carries))

    def test_alike_up_to_units(self):
        # All residuals are multiples of powers of 2 by units.
        for m in (9, 27, 5, 25, 7):
            self.assertEqual(depth_machine(Count("walk[2]"), m), Machine(prime_power(m)[0], [[0] * prime_power(m)[0]], [0]))
            self.assertGreater(machine_of(Count("walk[2]"), m).size, 1)
        # More than 60 residuals, of which many are alike up to a unit: few states.
        for text, m, size in (("walk[2] * walk[x + 1 + x^-1]", 27, 8), ("walk[2 * x + 3 + x^-1]", 27, 12),
                              ("walk[2] * sum[1] * walk[x + x^-1]", 25, 6)):
            count = Count(text)
            self.assertRaises(TooMany, machine_of, count, m)
            machine = depth_machine(count, m)
            self.assertEqual(machine.size, size)
            self.assertEqual([machine.at(n) for n in range(200)], depths_of(count, m, 200))

    def test_always_divided(self):
        for m in MODULI:
            p, k = prime_power(m)
            for j in range(k + 1):
                count = Count(f"{p ** j} * walk[x + 1 + x^-1]")
                self.assertEqual(always_divides(count, m), j)
                self.assertIsNone(least_not(count, m, j))
                if j < k:
                    self.assertEqual((least_not(count, m, j + 1), least_at(count, m, j)), (0, 0))
            self.assertEqual(always_divides(Count("0"), m), k)
            self.assertEqual(depth_machine(Count("0"), m), Machine(p, [[0] * p], [k]))
            self.assertEqual((least_at(Count("0"), m, k), least_at(Count("0"), m, 0)), (0, None))
        late = Count("2 * walk[x; x^-64]")
        self.assertEqual((always_divides(late, 8), least_not(late, 8, 2), least_not(late, 8, 1)), (1, 64, None))

    def test_late_ones(self):
        # n (n - 1) .. of 2 to high powers; the first n that is not divided is far.
        for places in (5, 30, 57):
            count = Count(f"walk[x; x^-{2 ** places}]")
            self.assertEqual((least_not(count, 2, 1), least_at(count, 2, 0)), (2 ** places, 2 ** places))
            self.assertEqual((least_not(count, 2, 0), least_at(count, 2, 1)), (None, 0))
        power = Count("sum[1]")
        for m in MODULI:
            p, k = prime_power(m)
            for j in range(k):
                self.assertEqual(least_at(power, m, j), p ** j)
            self.assertEqual((least_at(power, m, k), least_not(power, m, 1)), (0, 1))
        catalan = Count(f"{MIDDLE} * walk[x; x^-{2 ** 20}]")
        self.assertEqual((least_not(catalan, 4, 2), least_not(catalan, 2, 1)), (2 ** 20, None))

    def test_too_many_states(self):
        for text, m in (("fold[walk[x + x^-1], 1]", 25), ("walk[x + x^-1] + sum[1]", 27)):
            for call in (depth_machine, lambda count, m: least_at(count, m, 0)):
                with self.assertRaises(TooMany) as caught:
                    call(Count(text), m)
                self.assertEqual((caught.exception.what, caught.exception.limit), ("states", 60))
            least_not(Count(text), m, 1)
            always_divides(Count(text), m)
        for places in (57, 58):
            count = Count(f"walk[x; x^-{2 ** places}]")
            if places == 57:
                self.assertEqual(depth_machine(count, 2).size, 60)
            else:
                self.assertRaises(TooMany, depth_machine, count, 2)


class Errors(unittest.TestCase):

    def check(self, told, call, *arguments):
        with self.assertRaises(BadNumber) as caught:
            call(*arguments)
        self.assertEqual((caught.exception.what, caught.exception.number), told)

    def test_modulus_first(self):
        for value in NO_MODULI:
            for call in (depth_machine, always_divides):
                self.check(("modulus", value), call, Count("1"), value)
            for call in (least_not, least_at):
                self.check(("modulus", value), call, Count("1"), value, None)

    def test_no_depths(self):
        for m in MODULI:
            _, k = prime_power(m)
            for value in (-1, k + 1, 10 ** 60, True, False, None, "1", 1.0, (1,), [1]):
                for call in (least_not, least_at):
                    self.check(("j", value), call, Count("walk[x + x^-1] + sum[1]"), m, value)


class Sizes(unittest.TestCase):

    def test_sizes(self):
        begin = time.time()
        for text, m in (("walk[x + x^-1 + y + y^-1]", 27), ("walk[x^2 + x + 1 + x^-1 + x^-2]", 25),
                        ("walk[x + x^-1] * walk[x + 1 + x^-1]", 9), ("walk[x + y + z + x^-1 + y^-1 + z^-1]", 7),
                        ("walk[x^5 + x^-5 + x]", 4), ("walk[x + 1 + x^-1] + walk[x + 2 + x^-1]", 16)):
            count = Count(text)
            p, k = prime_power(m)
            if fewest(count, m) <= 12:
                machine = depth_machine(count, m)
                self.assertEqual(machine.at(10 ** 60), depth(rest_at(count, 10 ** 60, m), p, k))
                for j in range(k + 1):
                    least_at(count, m, j)
            for j in range(k + 1):
                least_not(count, m, j)
            always_divides(count, m)
        self.assertLess(time.time() - begin, 30)


if __name__ == "__main__":
    unittest.main()
