"""[27], [28], [29], [30], [31], [32] residuals and least tables."""

import random
import time
import unittest
from itertools import product

from plain_counts import MODULI, NO_MODULI, NO_NUMBERS, led, random_parts, rows_met, steady_parts, value_along, words
from plain_lots import made_by
from restcounts.counts import Count
from restcounts.errors import BadNumber, Unlike
from restcounts.lots import Lot
from restcounts.moduli import digits, prime_power
from restcounts.residuals import behind, blind, fewest, least_tables, orders, reached
from restcounts.tables import Tables, is_steady, plus, scaled, tables_of, times

COUNTS = ("walk[x+x^-1]", "walk[x+1+x^-1]", "sum[1]", "3", "0", "walk[2*x-x^-1+1; x+3]", "walk[x; x^-5]",
          "fold[walk[x+x^-1], 1]", "sum[walk[x+1+x^-1]]", "walk[x+x^-1] * walk[x+1+x^-1]", "2 * walk[x+x^-1]",
          "walk[x+y+x^-1*y^-1]")


def few_rows(m):
    """Sizes for which a plain list of all rows can be made in a short time."""
    return [size for size in range(6) if m ** size <= 260]


def told(tables, row, most):
    """What a row tells: its values at all words of few digits."""
    p, _ = prime_power(tables.m)
    values, rows = [], [row]
    for _ in range(most + 1):
        values += [sum(a * b for a, b in zip(one, tables.ends)) % tables.m for one in rows]
        rows = [led(tables.m, one, table) for one in rows for table in tables.moves]
    return tuple(values)


class Lots(unittest.TestCase):

    def samples(self):
        chance = random.Random(100)
        for m in MODULI:
            p, k = prime_power(m)
            for size in range(6):
                for factor in (1, p):
                    yield Tables(m, *random_parts(chance, m, size, factor))
                    yield Tables(m, *steady_parts(chance, m, size, factor))
                first, moves, ends = random_parts(chance, m, size)
                yield Tables(m, first, moves, (0,) * size)
                yield Tables(m, (0,) * size, moves, ends)

    def test_reached(self):
        for tables in self.samples():
            lot = reached(tables)
            self.assertIs(type(lot), Lot)
            self.assertEqual((lot.m, lot.width), (tables.m, tables.size))
            rows = rows_met(tables.m, tables.first, tables.moves) if tables.m ** tables.size <= 4000 else None
            if rows is not None:
                self.assertEqual(lot, Lot(tables.m, tables.size, sorted(rows)))

    def test_reached_has_what_it_must_and_no_more(self):
        for tables in self.samples():
            lot = reached(tables)
            rows = list(lot.rows) + [tables.first]
            self.assertTrue(all(row in lot for row in rows))
            self.assertTrue(all(led(tables.m, row, table) in lot for row in rows for table in tables.moves))
            # Rows of words of ever more digits make the lot before long.
            p, k = prime_power(tables.m)
            found, layer = Lot(tables.m, tables.size), Lot(tables.m, tables.size, [tables.first])
            for _ in range(k * tables.size + 1):
                found = found.joined(layer)
                layer = Lot(tables.m, tables.size, [led(tables.m, row, table) for row in layer.rows
                                                    for table in tables.moves])
            self.assertEqual(found, lot)

    def test_blind_against_all_rows(self):
        for tables in self.samples():
            lot = blind(tables)
            self.assertIs(type(lot), Lot)
            self.assertEqual((lot.m, lot.width), (tables.m, tables.size))
            if tables.size not in few_rows(tables.m):
                continue
            p, k = prime_power(tables.m)
            most = min(k * tables.size, 6 if p == 2 else 3 if p == 3 else 2)
            plain = [row for row in product(range(tables.m), repeat=tables.size)
                     if not any(told(tables, row, most))]
            if most == k * tables.size:
                self.assertEqual(lot, Lot(tables.m, tables.size, plain))
            else:
                self.assertTrue(all(row in plain for row in lot.rows))

    def test_blind_rows_lead_to_blind_rows(self):
        for tables in self.samples():
            lot = blind(tables)
            for row in lot.rows:
                self.assertEqual(sum(a * b for a, b in zip(row, tables.ends)) % tables.m, 0)
                self.assertTrue(all(led(tables.m, row, table) in lot for table in tables.moves))
            # Each row is blind or not as its values at words of k * size digits tell; by turned tables.
            p, k = prime_power(tables.m)
            columns = Lot(tables.m, tables.size, [tables.ends])
            for _ in range(k * tables.size):
                more = [tuple(sum(a * b for a, b in zip(line, row)) % tables.m for line in table)
                        for table in tables.moves for row in columns.rows]
                columns = columns.joined(Lot(tables.m, tables.size, more))
            self.assertEqual(lot.size * columns.size, tables.m ** tables.size)


class Behind(unittest.TestCase):

    def test_residuals(self):
        chance = random.Random(101)
        for m in MODULI:
            p, _ = prime_power(m)
            for text in COUNTS[:6]:
                tables = tables_of(Count(text), m)
                for places in (0, 1, 2, 5):
                    number = chance.randrange(p ** places)
                    shifted = behind(tables, places, number)
                    self.assertIs(type(shifted), Tables)
                    self.assertEqual((shifted.m, shifted.moves, shifted.ends), (m, tables.moves, tables.ends))
                    self.assertEqual([shifted.at(n) for n in range(20)],
                                     [tables.at(p ** places * n + number) for n in range(20)])

    def test_first_rows_of_any_tables(self):
        chance = random.Random(102)
        for m in MODULI:
            p, _ = prime_power(m)
            first, moves, ends = random_parts(chance, m, 3)
            tables = Tables(m, first, moves, ends)
            self.assertEqual(behind(tables, 0, 0).first, tables.first)
            for places in (1, 3, 200):
                for number in (0, 1, p ** places - 1, chance.randrange(p ** places)):
                    word = digits(number, p) + (0,) * (places - len(digits(number, p)))
                    row = first
                    for digit in word:
                        row = led(m, row, moves[digit])
                    self.assertEqual(behind(tables, places, number).first, row)
                    self.assertEqual(behind(tables, places, number).along((1, 0)),
                                     value_along(m, first, moves, ends, word + (1, 0)))

    def test_errors_in_their_order(self):
        for m in (4, 3):
            p, _ = prime_power(m)
            tables = tables_of(Count("sum[1]"), m)
            for places in NO_NUMBERS + (201, 10 ** 60):
                for number in (0, -1, None):
                    self.bad_number("places", places, tables, places, number)
            for places in (0, 1, 200):
                for number in NO_NUMBERS + (p ** places, p ** 300):
                    self.bad_number("number", number, tables, places, number)
                self.assertEqual(behind(tables, places, p ** places - 1).m, m)

    def bad_number(self, what, number, *arguments):
        with self.assertRaises(BadNumber) as caught:
            behind(*arguments)
        self.assertEqual(caught.exception.what, what)
        self.assertIs(caught.exception.number, number)


class Least(unittest.TestCase):

    def check(self, tables):
        m = tables.m
        p, k = prime_power(m)
        least, told_orders = least_tables(tables), orders(tables)
        self.assertIs(type(least), Tables)
        self.assertIs(type(told_orders), tuple)
        self.assertIs(is_steady(least), True)
        self.assertEqual(least.size, len(told_orders))
        self.assertEqual(list(told_orders), sorted(told_orders))
        self.assertTrue(all(order in [p ** t for t in range(1, k + 1)] for order in told_orders))
        for n in list(range(50)) + [10 ** 60, p ** 40 - 1]:
            self.assertEqual(least.at(n), tables.at(n))
        self.assertEqual(orders(least), told_orders)
        many = 1
        for order in told_orders:
            many *= order
        lot = reached(tables)
        self.assertEqual(lot.size // lot.common(blind(tables)).size, many)
        return least

    def check_mixtures(self, tables):
        """The orders against a plain list of all mixtures."""
        p, k = prime_power(tables.m)
        most = 7 if p == 2 else 4 if p == 3 else 3
        rows = made_by(tables.m, tables.size, reached(tables).rows)
        mixtures = {told(tables, row, most) for row in rows}
        for t in range(k + 1):
            killed = [one for one in mixtures if not any(p ** t * value % tables.m for value in one)]
            many = 1
            for order in orders(tables):
                many *= min(order, p ** t)
            self.assertEqual(len(killed), many)

    def test_counts(self):
        for m in MODULI:
            for text in COUNTS:
                tables = tables_of(Count(text), m)
                least = self.check(tables)
                self.assertEqual(fewest(Count(text), m), least.size)
                # Tables of many more rows, of which some are never reached and others differ by blind ones.
                other = tables_of(Count("sum[1]"), m)
                wide = plus(plus(tables, other), scaled(other, -1))
                if wide.size <= 40:
                    self.assertEqual(self.check(wide).size, least.size)
                    self.assertEqual(orders(wide), orders(tables))

    def test_random_steady_tables(self):
        chance = random.Random(103)
        for m in MODULI:
            p, _ = prime_power(m)
            for size in range(5):
                for factor in (1, p):
                    tables = Tables(m, *steady_parts(chance, m, size, factor))
                    self.assertIs(is_steady(tables), True)
                    self.check(tables)
                    if m ** size <= 260:
                        self.check_mixtures(tables)

    def test_mixtures_of_counts(self):
        for m, text in ((4, "walk[x+x^-1]"), (4, "2*sum[1]"), (8, "sum[1]"), (8, "2*sum[1] + 4"), (9, "sum[sum[1]]"),
                        (9, "3*walk[x+1+x^-1]"), (16, "2*sum[1]"), (4, "sum[sum[1]]"), (2, "sum[walk[x+1+x^-1]]"),
                        (27, "9*sum[1] + 3"), (25, "5*walk[x+1+x^-1]")):
            self.check_mixtures(least_tables(tables_of(Count(text), m)))

    def test_known_orders(self):
        for m, text, wanted in (
                (4, "0", ()), (4, "1", (4,)), (4, "2", (2,)), (8, "6", (4,)), (8, "sum[1]", (8, 8)),
                (8, "2*sum[1]", (4, 4)), (8, "4*sum[1] + 1", (2, 8)), (9, "3 + 3*sum[1]", (3, 3)), (27, "27", ()),
                (25, "walk[6]", (5, 25)), (2, "sum[1]", (2, 2))):
            tables = tables_of(Count(text), m)
            self.assertEqual(orders(tables), wanted, (m, text))
            self.assertEqual(fewest(Count(text), m), len(wanted))

    def test_rests_that_are_all_zero(self):
        chance = random.Random(104)
        for m in MODULI:
            p, _ = prime_power(m)
            first, moves, ends = steady_parts(chance, m, 3)
            for tables in (Tables(m, (), ((),) * p, ()), Tables(m, (0,) * 3, moves, ends), Tables(m, first, moves, (0,) * 3)):
                self.assertEqual((orders(tables), least_tables(tables).size), ((), 0))
                self.assertEqual(least_tables(tables).at(10 ** 60), 0)
            self.assertEqual(fewest(Count("walk[x] - walk[x+x^-1; x - x^-1]"), m), fewest(Count("walk[x]"), m))

    def test_no_fewer_rows_can_do(self):
        # All tables of one row modulo 4, and of two rows modulo 2, against what needs one more.
        for m, size, text in ((4, 1, "sum[1]"), (4, 1, "2*sum[1]"), (2, 2, "sum[sum[1]]"), (3, 1, "sum[1]")):
            wanted = Count(text).first_rests(12, m)
            self.assertEqual(fewest(Count(text), m), size + 1)
            p, _ = prime_power(m)
            for numbers in product(range(m), repeat=size * (2 + p * size)):
                first, ends, rest = numbers[:size], numbers[size:2 * size], numbers[2 * size:]
                tables = [[rest[(d * size + i) * size:][:size] for i in range(size)] for d in range(p)]
                if all(value_along(m, first, tables, ends, digits(n, p)) == wanted[n] for n in range(12)):
                    self.assertIs(is_steady(Tables(m, first, tables, ends)), False)

    def test_unlike_exactly_for_tables_that_are_not_steady(self):
        chance = random.Random(105)
        seen = 0
        for _ in range(300):
            m = chance.choice(MODULI)
            tables = Tables(m, *random_parts(chance, m, chance.randrange(4)))
            if is_steady(tables):
                self.check(tables)
                continue
            seen += 1
            for action in (least_tables, orders):
                with self.assertRaises(Unlike) as caught:
                    action(tables)
                self.assertEqual(caught.exception.what, "steady")
        self.assertGreater(seen, 100)

    def test_fewest_errors(self):
        for m in NO_MODULI:
            with self.assertRaises(BadNumber) as caught:
                fewest(Count("sum[1]"), m)
            self.assertEqual(caught.exception.what, "modulus")
            self.assertIs(caught.exception.number, m)

    def test_what_is_handed_in_stays_as_it_was(self):
        tables = times(tables_of(Count("walk[x+x^-1]"), 9), tables_of(Count("sum[1]"), 9))
        before = (tables.m, tables.first, tables.moves, tables.ends, tables.size)
        reached(tables), blind(tables), least_tables(tables), orders(tables), behind(tables, 3, 5)
        self.assertEqual((tables.m, tables.first, tables.moves, tables.ends, tables.size), before)

    def test_greatest_sizes_end_in_seconds(self):
        begin = time.monotonic()
        chance = random.Random(106)
        for m in MODULI:
            tables = Tables(m, *steady_parts(chance, m, 40))
            self.assertEqual(reached(tables).width, 40)
            self.assertEqual(blind(tables).width, 40)
            least = least_tables(tables)
            self.assertEqual(least.size, len(orders(tables)))
            self.assertEqual(least.at(10 ** 60), tables.at(10 ** 60))
        self.assertLess(time.monotonic() - begin, 60)


if __name__ == "__main__":
    unittest.main()
