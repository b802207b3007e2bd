"""[2], [5], [6], [7] lots of rows: their form, size and least, and what is asked of them."""

import random
import unittest

from plain_lots import all_rows, form_of, head_of, least_of, made_by
from restcounts.errors import BadNumber, BadRow, Unlike
from restcounts.lots import Lot

MODULI = (2, 4, 8, 16, 3, 9, 27, 5, 25, 7)
PRIME = {2: 2, 4: 2, 8: 2, 16: 2, 3: 3, 9: 3, 27: 3, 5: 5, 25: 5, 7: 7}
# For each modulus the widths that a plain list of all rows can be made of in a short time.
WIDTHS = {2: 5, 4: 4, 8: 3, 16: 2, 3: 4, 9: 2, 27: 2, 5: 3, 25: 2, 7: 3}
NO_MODULI = (0, 1, 6, 32, -2, True, False, "2", None, 2.0, (2,), [4])
NO_WIDTHS = (-1, 401, 10 ** 60, True, False, "1", None, 1.0, (1,), [1])


def samples():
    """Moduli, widths and rows, of all kinds and always the same ones."""
    chance = random.Random(20)
    for m in MODULI:
        for width in range(WIDTHS[m] + 1):
            for many in (0, 1, 2, 3, 5):
                for spread in (1, PRIME[m], m // PRIME[m]):
                    rows = [tuple(spread * chance.randrange(m) % m for _ in range(width))
                            for _ in range(many)]
                    # Half of the rows have all their numbers, the others have multiples only.
                    yield m, width, rows[::2] + [tuple(PRIME[m] * a % m for a in row)
                                                 for row in rows[1::2]]


def mixed(m, width, rows, chance):
    """Other rows that make the same lot: doubled, turned about, large, below 0, with sums."""
    large = [tuple(a + m * chance.randrange(-10 ** 70, 10 ** 70) for a in row) for row in rows]
    sums = [tuple(a - 5 * b for a, b in zip(one, other)) for one, other in zip(rows, rows[1:])]
    units = [u for u in range(1, m) if u % PRIME[m]]
    scaled = [[unit * a for a in row]
              for unit, row in zip(chance.choices(units, k=len(rows)), rows)]
    mixture = sums + large + [[0] * width] + sums + scaled
    chance.shuffle(mixture)
    return mixture


class Forms(unittest.TestCase):

    def test_form_size_and_least_against_all_rows(self):
        for m, width, rows in samples():
            with self.subTest(m=m, width=width, rows=rows):
                plain = made_by(m, width, rows)
                lot = Lot(m, width, rows)
                self.assertEqual(lot.rows, form_of(plain, width))
                self.assertEqual(lot.size, len(plain))
                below = {tuple(PRIME[m] * a % m for a in row) for row in plain}
                self.assertEqual(len(plain), len(below) * PRIME[m] ** lot.least)

    def test_least_by_trying(self):
        for m, width, rows in samples():
            plain = made_by(m, width, rows)
            if len(plain) <= 64 and width <= 2:
                with self.subTest(m=m, width=width, rows=rows):
                    self.assertEqual(Lot(m, width, rows).least, least_of(plain, m, width))

    def test_form_does_not_depend_on_the_rows_that_make_the_lot(self):
        chance = random.Random(21)
        for m, width, rows in samples():
            with self.subTest(m=m, width=width, rows=rows):
                lot = Lot(m, width, rows)
                again = Lot(m, width, mixed(m, width, rows, chance))
                self.assertEqual(again.rows, lot.rows)
                self.assertEqual((again.size, again.least), (lot.size, lot.least))
                self.assertTrue(again == lot)

    def test_each_lot_of_width_two_modulo_four_has_one_form(self):
        forms = {}
        for one in all_rows(4, 2):
            for other in all_rows(4, 2):
                plain = frozenset(made_by(4, 2, [one, other]))
                forms.setdefault(plain, set()).add(Lot(4, 2, [one, other]).rows)
        self.assertTrue(all(len(found) == 1 for found in forms.values()))
        self.assertEqual(len({rows for found in forms.values() for rows in found}), len(forms))

    def test_rows_that_only_multiples_make(self):
        self.assertEqual(Lot(4, 2, [(2, 1)]).rows, ((2, 1), (0, 2)))
        self.assertEqual(Lot(8, 3, [(4, 2, 1)]).rows, ((4, 2, 1), (0, 4, 2), (0, 0, 4)))
        self.assertEqual(Lot(16, 2, [(4, 1)]).rows, ((4, 1), (0, 4)))
        self.assertEqual(Lot(9, 2, [(3, 1)]).rows, ((3, 1), (0, 3)))
        self.assertEqual(Lot(27, 3, [(9, 3, 1)]).rows, ((9, 3, 1), (0, 9, 3), (0, 0, 9)))
        self.assertEqual(Lot(25, 2, [(5, 1)]).rows, ((5, 1), (0, 5)))
        self.assertEqual(Lot(8, 3, [(4, 2, 1)]).size, 8)
        self.assertEqual(Lot(8, 3, [(4, 2, 1)]).least, 1)

    def test_heads_are_powers_of_the_prime(self):
        self.assertEqual(Lot(8, 1, [(6,)]).rows, ((2,),))
        self.assertEqual(Lot(27, 2, [(18, 1)]).rows, ((9, 2), (0, 3)))
        self.assertEqual(Lot(7, 2, [(3, 1)]).rows, ((1, 5),))

    def test_places_behind_are_reduced_by_the_rows_there(self):
        self.assertEqual(Lot(8, 2, [(1, 7), (0, 2)]).rows, ((1, 1), (0, 2)))
        self.assertEqual(Lot(8, 3, [(1, 7, 7), (0, 2, 3), (0, 0, 4)]).rows,
                         ((1, 1, 2), (0, 2, 3), (0, 0, 4)))
        self.assertEqual(Lot(3, 3, [(1, 2, 2), (0, 1, 2)]).rows, ((1, 0, 1), (0, 1, 2)))

    def test_zeros_no_rows_and_width_zero(self):
        for m in MODULI:
            for lot in (Lot(m, 3), Lot(m, 3, []), Lot(m, 3, rows=()), Lot(m, 3, [(0, 0, 0)]),
                        Lot(m, 3, [(m, -m, m * 10 ** 50), [0, 0, 0]])):
                self.assertEqual((lot.rows, lot.size, lot.least), ((), 1, 0))
            for lot in (Lot(m, 0), Lot(m, 0, [(), [], ()])):
                self.assertEqual((lot.rows, lot.size, lot.least), ((), 1, 0))
                self.assertTrue(() in lot)
                self.assertTrue([] in lot)

    def test_all_rows_of_a_width(self):
        for m in MODULI:
            unit = [tuple(int(i == j) for i in range(4)) for j in range(4)]
            lot = Lot(m, 4, unit[::-1])
            self.assertEqual((lot.rows, lot.size, lot.least), (tuple(unit), m ** 4, 4))

    def test_kinds_of_what_is_told(self):
        lot = Lot(9, 2, [[3, 1], [10, -1]])
        self.assertIs(type(lot.rows), tuple)
        for row in lot.rows:
            self.assertIs(type(row), tuple)
            for number in row:
                self.assertIs(type(number), int)
        self.assertEqual((lot.m, lot.width), (9, 2))
        self.assertIs(type(lot.size), int)
        self.assertIs(type(lot.least), int)


class LargeForms(unittest.TestCase):
    """Lots that are too large for a plain list: the form by its description alone."""

    def check_form(self, lot, rows):
        heads = [head_of(row) for row in lot.rows]
        self.assertEqual(heads, sorted(set(heads)))
        entries = {head: row[head] for head, row in zip(heads, lot.rows)}
        for head, row in zip(heads, lot.rows):
            self.assertEqual(lot.m % entries[head], 0)
            self.assertTrue(all(0 <= number < lot.m for number in row))
            self.assertTrue(all(row[i] < entries[i] for i in entries if i > head))
            times = lot.m // entries[head]
            self.assertTrue(self.is_made(lot, [times * number for number in row]))
        for row in rows:
            self.assertTrue(self.is_made(lot, row))

    def is_made(self, lot, row):
        rest = [number % lot.m for number in row]
        for other in lot.rows:
            head = head_of(other)
            times, left = divmod(rest[head], other[head])
            if left:
                return False
            rest = [(a - times * b) % lot.m for a, b in zip(rest, other)]
        return not any(rest)

    def test_wide_lots(self):
        chance = random.Random(22)
        for m in MODULI:
            p = PRIME[m]
            for width, many in ((30, 12), (30, 45), (100, 60)):
                rows = [[p ** chance.randrange(3) * chance.randrange(-9 * m, 9 * m)
                         for _ in range(width)] for _ in range(many)]
                lot = Lot(m, width, rows)
                self.check_form(lot, rows)
                self.assertEqual(Lot(m, width, rows[::-1]).rows, lot.rows)
                self.assertEqual(Lot(m, width, lot.rows).rows, lot.rows)
                size = 1
                for row in lot.rows:
                    size *= m // row[head_of(row)]
                self.assertEqual(lot.size, size)
                self.assertTrue(lot.least <= min(width, many))

    def test_widest(self):
        chance = random.Random(23)
        for m in (2, 16, 27):
            rows = [[chance.randrange(m) for _ in range(400)] for _ in range(60)]
            lot = Lot(m, 400, rows)
            self.check_form(lot, rows)
            self.assertEqual(lot.size, m ** lot.least)
            self.assertEqual(lot.least, 60)


class Questions(unittest.TestCase):

    def test_in_against_all_rows(self):
        chance = random.Random(24)
        for m, width, rows in samples():
            plain = made_by(m, width, rows)
            lot = Lot(m, width, rows)
            for row in chance.choices(list(all_rows(m, width)), k=20):
                shifted = [a + m * chance.choice((-3, 0, 1, 10 ** 60)) for a in row]
                self.assertIs(row in lot, row in plain)
                self.assertIs(shifted in lot, row in plain)
            for row in chance.choices(sorted(plain), k=5):
                self.assertTrue(row in lot)

    def test_what_is_no_row(self):
        lot = Lot(4, 2, [(2, 1)])
        for row in ((2,), (2, 1, 0), (), (2, True), (2, 1.0), ("2", "1"), "21", b"21", 5, None,
                    {2: 1, 1: 2}, {2, 1}, ((2, 1),), lot, range(2)):
            with self.assertRaises(BadRow) as caught:
                row in lot
            self.assertIs(caught.exception.row, row)

    def test_joined_and_common_against_all_rows(self):
        earlier = {}
        for m, width, rows in samples():
            plain = made_by(m, width, rows)
            lot = Lot(m, width, rows)
            for other_lot, other_plain in earlier.setdefault((m, width), []):
                both = plain & other_plain
                sums = made_by(m, width, list(lot.rows) + list(other_lot.rows))
                for one, other in ((lot, other_lot), (other_lot, lot)):
                    with self.subTest(one=one.rows, other=other.rows, m=m):
                        self.assertEqual(one.common(other).rows, form_of(both, width))
                        self.assertEqual(one.common(other).size, len(both))
                        self.assertEqual(one.joined(other).rows, form_of(sums, width))
                        self.assertEqual(one.joined(other).size, len(sums))
            if len(earlier[m, width]) < 4:
                earlier[m, width].append((lot, plain))

    def test_joined_and_common_leave_both_as_they_were(self):
        one, other = Lot(8, 2, [(2, 1)]), Lot(8, 2, [(1, 4), (0, 4)])
        before = (one.rows, one.size, one.least, other.rows, other.size, other.least)
        self.assertEqual(one.joined(other), Lot(8, 2, [(2, 1), (1, 4), (0, 4)]))
        self.assertIs(type(one.common(other)), Lot)
        self.assertEqual((one.rows, one.size, one.least, other.rows, other.size, other.least),
                         before)
        self.assertEqual(one.joined(one), one)
        self.assertEqual(one.common(one), one)
        self.assertEqual(one.common(Lot(8, 2)), Lot(8, 2))
        self.assertEqual(one.joined(Lot(8, 2)), one)

    def test_joined_and_common_of_wide_lots(self):
        chance = random.Random(25)
        for m in (4, 27, 7):
            one = Lot(m, 80, [[chance.randrange(m) for _ in range(80)] for _ in range(50)])
            other = Lot(m, 80, [[chance.randrange(m) for _ in range(80)] for _ in range(50)])
            both, sums = one.common(other), one.joined(other)
            self.assertEqual(both.size * sums.size, one.size * other.size)
            self.assertTrue(all(row in one and row in other for row in both.rows))
            self.assertTrue(all(row in sums for row in one.rows + other.rows))
            self.assertEqual((other.common(one), other.joined(one)), (both, sums))

    def test_unlike_modulus_ahead_of_width(self):
        lot = Lot(4, 2, [(1, 1)])
        for other, what in ((Lot(2, 2), "modulus"), (Lot(8, 3), "modulus"), (Lot(4, 3), "width"),
                            (Lot(4, 0), "width")):
            for one, two in ((lot, other), (other, lot)):
                for method in (one.joined, one.common):
                    with self.assertRaises(Unlike) as caught:
                        method(two)
                    self.assertEqual(caught.exception.what, what)

    def test_equal(self):
        lot = Lot(4, 2, [(2, 1)])
        self.assertTrue(lot == Lot(4, 2, [[-2, 3], [0, 2]]))
        self.assertFalse(lot != Lot(4, 2, [[2, 3]]))
        for other in (Lot(4, 2), Lot(4, 2, [(2, 0), (0, 1)]), Lot(8, 2, [(2, 1), (0, 2)]),
                      Lot(4, 3, [(2, 1, 0)]), lot.rows, (4, 2, lot.rows), None, 4, "lot"):
            self.assertFalse(lot == other)
            self.assertFalse(other == lot)
            self.assertTrue(lot != other)
        self.assertFalse(Lot(2, 1) == Lot(3, 1))
        self.assertFalse(Lot(2, 1) == Lot(2, 2))
        self.assertFalse(Lot(4, 2, [(1, 0)]) == Lot(8, 2, [(1, 0)]))

    def test_methods_stand_in_the_class_itself(self):
        for name in ("__init__", "__eq__", "__contains__", "joined", "common"):
            self.assertIn(name, vars(Lot))
        self.assertEqual(Lot.__module__, "restcounts.lots")


class Errors(unittest.TestCase):

    def error_of(self, error, *arguments):
        with self.assertRaises(error) as caught:
            Lot(*arguments)
        return caught.exception

    def test_modulus_comes_first(self):
        for m in NO_MODULI:
            for width, rows in ((2, [(1, 1)]), (-1, [(1, 1)]), ("no width", [5]), (401, [])):
                error = self.error_of(BadNumber, m, width, rows)
                self.assertEqual(error.what, "modulus")
                self.assertIs(error.number, m)

    def test_width_comes_second(self):
        for width in NO_WIDTHS:
            for rows in ((), [(1, 1)], [5]):
                error = self.error_of(BadNumber, 4, width, rows)
                self.assertEqual(error.what, "width")
                self.assertIs(error.number, width)

    def test_widths_that_may_be(self):
        for width in (0, 1, 399, 400):
            lot = Lot(9, width, [[1] * width, (3,) * width])
            self.assertEqual(lot.width, width)
            self.assertEqual(lot.rows, ((1,) * width,) if width else ())

    def test_the_first_wrong_row_counts(self):
        wrong = ((1,), (1, 2, 3), (1, True), [1, None], (1, 2.0), "12", b"12", 12, None, {1: 2, 2: 1},
                 {1, 2}, ([1], [2]), range(2))
        for at, row in enumerate(wrong):
            for rows in ([row], [(1, 1), row], ((1, 1), [0, 2], row, (3, 3)), (row, *wrong)):
                self.assertIs(self.error_of(BadRow, 4, 2, rows).row, row)
            behind = wrong[(at + 1) % len(wrong)]
            self.assertIs(self.error_of(BadRow, 4, 2, [(1, 1), row, behind]).row, row)
        self.assertEqual(self.error_of(BadRow, 2, 0, [(), [], (0,)]).row, (0,))

    def test_lists_that_are_changed_behind_the_call(self):
        rows = [[2, 1], [0, 0]]
        lot = Lot(4, 2, rows)
        rows[0][0] = 1
        rows[1][1] = 3
        rows.append([1, 1])
        self.assertEqual(lot.rows, ((2, 1), (0, 2)))
        self.assertEqual(lot.size, 4)
        self.assertFalse((1, 1) in lot)
        self.assertTrue((2, 3) in lot)

    def test_what_is_handed_in_stays_as_it_was(self):
        rows = [[5, -1], (7, 10 ** 60), [0, 0]]
        row = [-4, 9]
        lot = Lot(4, 2, rows)
        row in lot
        self.assertEqual(rows, [[5, -1], (7, 10 ** 60), [0, 0]])
        self.assertEqual(row, [-4, 9])


if __name__ == "__main__":
    unittest.main()
