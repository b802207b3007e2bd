"""[9], [10], [11] sums of powers."""

import copy
import random
import time
import unittest

from plain_counts import ONE, multiplied, summed
from restcounts.errors import BadNumber, BadRow, TooLarge
from restcounts.powers import Powers

BIG = 12345678901234567890
NO_INTEGERS = (True, False, None, "1", 1.0, (1,), [1], {1: 1}, 2 + 0j)
NO_NUMBERS = NO_INTEGERS + (-1, -BIG)
NO_TRIPLES = ((), (1,), (1, 2), (1, 2, 3, 4), (1, 2, True), [1, 2, None], (1, 2.0, 3), "123", b"123",
              None, 3, {1: 1, 2: 2, 3: 3}, {1, 2, 3}, range(3), ((1, 2, 3),))


def random_terms(chance, most=6, reach=3):
    """Pairs in any order, some powers several times, tuples and lists, large and small."""
    terms = []
    for _ in range(chance.randrange(most + 1)):
        scale = chance.choice((1, 1, 1, BIG))
        power = [scale * chance.randrange(-reach, reach + 1) for _ in range(3)]
        number = chance.choice((1, 1, BIG)) * chance.randrange(-4, 5)
        pair = (chance.choice((tuple, list))(power), number)
        terms.append(chance.choice((tuple, list))(pair))
    return terms + chance.sample(terms, k=min(2, len(terms)))


def as_dict(terms):
    total = {}
    for power, number in terms:
        total = summed(total, {tuple(power): number})
    return total


def as_terms(sums):
    return tuple(sorted(sums.items()))


class Sums(unittest.TestCase):

    def test_terms_and_reach(self):
        chance = random.Random(50)
        for _ in range(300):
            terms = random_terms(chance)
            plain = as_dict(terms)
            powers = Powers(terms)
            self.assertEqual(powers.terms, as_terms(plain))
            self.assertEqual(powers.reach, tuple(max([abs(power[at]) for power in plain], default=0)
                                                 for at in range(3)))
            self.assertEqual(Powers(terms[::-1]).terms, powers.terms)
            self.assertEqual(Powers(tuple(terms)).terms, powers.terms)

    def test_parted_and_cancelled_terms(self):
        powers = Powers([((1, 0, 0), 3), ((0, 0, 0), 5), [[1, 0, 0], -3], ((0, -2, 7), 0)])
        self.assertEqual((powers.terms, powers.reach), ((((0, 0, 0), 5),), (0, 0, 0)))
        powers = Powers([[(BIG, -BIG, 0), -BIG], ((-3, 2, 1), 1), ((BIG, -BIG, 0), BIG - 1)])
        self.assertEqual(powers.terms, (((-3, 2, 1), 1), ((BIG, -BIG, 0), -1)))
        self.assertEqual(powers.reach, (BIG, BIG, 1))
        self.assertEqual((Powers([]).terms, Powers(()).reach), ((), (0, 0, 0)))

    def test_kinds_of_what_is_told(self):
        powers = Powers([[[1, 2, 3], 4]])
        self.assertIs(type(powers.terms), tuple)
        self.assertIs(type(powers.terms[0]), tuple)
        self.assertIs(type(powers.terms[0][0]), tuple)
        self.assertIs(type(powers.reach), tuple)

    def test_lists_that_are_changed_behind_the_call(self):
        terms = [[[1, 2, 3], 4], ([0, 0, 1], 2)]
        before = copy.deepcopy(terms)
        powers = Powers(terms)
        self.assertEqual(terms, before)
        told = powers.terms
        terms[0][0][0] = 9
        terms[0][1] = 9
        terms.append(((7, 7, 7), 7))
        self.assertEqual(powers.terms, told)
        self.assertEqual(powers.part_at((1, 2, 3)), 4)
        self.assertEqual(powers * 1, Powers(before))

    def test_the_first_wrong_item_counts(self):
        wrong = [(power, 1) for power in NO_TRIPLES] + [((1, 2, 3), number) for number in NO_INTEGERS]
        wrong += [(), ((1, 2, 3),), ((1, 2, 3), 1, 1), (1, (1, 2, 3)), "ab", b"ab", None, 5, BIG,
                  {(1, 2, 3): 1, 2: 3}, {1, 2}, Powers([])]
        for at, item in enumerate(wrong):
            for terms in ([item], [((1, 2, 3), 1), item], (item, *wrong), [[[1, 2, 3], 1], item, None]):
                with self.assertRaises(BadRow) as caught:
                    Powers(terms)
                self.assertIs(caught.exception.row, item)

    def test_methods_stand_in_the_class_itself(self):
        for name in ("__init__", "__add__", "__radd__", "__sub__", "__rsub__", "__mul__", "__rmul__",
                     "__neg__", "__eq__", "raised", "constant", "part_at", "moved", "parts", "modulo"):
            self.assertIn(name, vars(Powers))
        self.assertEqual(Powers.__module__, "restcounts.powers")


class Arithmetic(unittest.TestCase):

    def test_sums_differences_and_products(self):
        chance = random.Random(51)
        for _ in range(200):
            terms, terms2 = random_terms(chance), random_terms(chance)
            one, other = Powers(terms), Powers(terms2)
            plain, plain2 = as_dict(terms), as_dict(terms2)
            opposite = {power: -number for power, number in plain2.items()}
            for told, wanted in ((one + other, summed(plain, plain2)),
                                 (one - other, summed(plain, opposite)),
                                 (one * other, multiplied(plain, plain2)), (-other, opposite)):
                self.assertIs(type(told), Powers)
                self.assertEqual(told.terms, as_terms(wanted))
                self.assertEqual(told.reach, Powers(wanted.items()).reach if wanted else (0, 0, 0))
            self.assertEqual((one.terms, other.terms), (as_terms(plain), as_terms(plain2)))

    def test_integers_on_both_sides(self):
        chance = random.Random(52)
        for number in (0, 1, -1, 7, -BIG):
            for _ in range(10):
                one = Powers(random_terms(chance))
                other = Powers([((0, 0, 0), number)])
                self.assertEqual((one + number).terms, (one + other).terms)
                self.assertEqual((number + one).terms, (one + other).terms)
                self.assertEqual((one - number).terms, (one - other).terms)
                self.assertEqual((number - one).terms, (other - one).terms)
                self.assertEqual((one * number).terms, (one * other).terms)
                self.assertEqual((number * one).terms, (one * other).terms)
                self.assertIs(type(number - one), Powers)
        for value in NO_INTEGERS:
            for action in (lambda a, b: a + b, lambda a, b: a - b, lambda a, b: a * b):
                with self.assertRaises(TypeError):
                    action(Powers([]), value)
                with self.assertRaises(TypeError):
                    action(value, Powers([]))

    def test_equal(self):
        one = Powers([((1, 0, -1), 2), ((0, 0, 0), 5)])
        self.assertTrue(one == Powers([[[0, 0, 0], 2], ((1, 0, -1), 2), ((0, 0, 0), 3)]))
        self.assertFalse(one != Powers([((0, 0, 0), 5), ((1, 0, -1), 2)]))
        for other in (Powers([]), Powers([((1, 0, -1), 2)]), Powers([((1, 0, -1), 2), ((0, 0, 0), 4)]),
                      5, 0, one.terms, None, "x", 5.0):
            self.assertFalse(one == other)
            self.assertFalse(other == one)
            self.assertTrue(one != other)
        for number in (3, -BIG):
            self.assertTrue(Powers([((0, 0, 0), number)]) == number)
            self.assertTrue(number == Powers([((0, 0, 0), number)]))
            self.assertFalse(Powers([((1, 0, 0), number)]) == number)
        self.assertTrue(Powers([]) == 0)
        self.assertTrue(0 == Powers([((1, 1, 1), 0)]))
        # True, False and ratios are no integers here.
        for value in (True, 1.0, "1", (((0, 0, 0), 1),)):
            self.assertFalse(Powers([((0, 0, 0), 1)]) == value)
            self.assertFalse(value == Powers([((0, 0, 0), 1)]))
        self.assertFalse(Powers([]) == False)

    def test_raised(self):
        chance = random.Random(53)
        for _ in range(80):
            terms = random_terms(chance, 4)
            plain = dict(ONE)
            for n in range(6):
                told = Powers(terms).raised(n)
                self.assertEqual(told.terms, as_terms(plain), (terms, n))
                plain = multiplied(plain, as_dict(terms))

    def test_raised_to_edges(self):
        zero = Powers([])
        self.assertEqual(zero.raised(0), 1)
        self.assertEqual(zero.raised(1), 0)
        self.assertEqual(zero.raised(200), 0)
        one = Powers([((1, -1, BIG), 3), ((0, 2, 0), -1)])
        self.assertEqual(one.raised(1), one)
        self.assertEqual(Powers([((1, -2, BIG), -2)]).raised(200),
                         Powers([((200, -400, 200 * BIG), 2 ** 200)]))
        row = [1]
        for _ in range(200):
            row = [a + b for a, b in zip(row + [0], [0] + row)]
        self.assertEqual(Powers([((0, 1, 0), 1), ((0, -1, 0), 1)]).raised(200).terms,
                         tuple(((0, 2 * at - 200, 0), number) for at, number in enumerate(row)))
        for n in (201, 10 ** 60):
            with self.assertRaises(TooLarge) as caught:
                one.raised(n)
            error = caught.exception
            self.assertEqual((error.what, error.number, error.limit), ("n", n, 200))
        for n in NO_NUMBERS:
            with self.assertRaises(BadNumber) as caught:
                one.raised(n)
            self.assertEqual(caught.exception.what, "n")
            self.assertIs(caught.exception.number, n)

    def test_many_terms_end_in_seconds(self):
        begin = time.monotonic()
        four = Powers([((1, 0, 0), 1), ((-1, 0, 0), 1), ((0, 1, 0), 1), ((0, -1, 0), 1)])
        self.assertEqual(len(four.raised(140).terms), 141 * 141)
        self.assertEqual(sum(number for _, number in four.raised(140).terms), 4 ** 140)
        wide = Powers([((at, 0, 0), 1) for at in range(100)]).raised(200)
        self.assertEqual(sum(number for _, number in wide.terms), 100 ** 200)
        long = Powers([((0, 0, BIG * at), at - 5000) for at in range(10000)])
        for square in (long * long, long.raised(2)):
            self.assertEqual(len(square.terms) + [n for _, n in square.terms].count(0), len(square.terms))
            for place in (0, 1, 777, 12345, 19998):
                wanted = sum((at - 5000) * (place - at - 5000)
                             for at in range(max(0, place - 9999), min(9999, place) + 1))
                self.assertEqual(square.part_at((0, 0, BIG * place)), wanted)
            self.assertEqual(square.reach, (0, 0, 19998 * BIG))
        flat = Powers([((at % 70, at // 70, 0), (-1) ** at * (at + 1)) for at in range(4900)])
        square = flat * flat
        self.assertEqual(square.part_at((1, 0, 0)), 2 * -2)
        self.assertEqual(square.part_at((138, 138, 0)), 4900 ** 2)
        self.assertEqual(sum(n for _, n in square.terms), sum(n for _, n in flat.terms) ** 2)
        sparse = Powers([((at ** 5, 0, BIG ** at), at + 1) for at in range(190)])
        self.assertEqual(len(sparse.raised(2).terms), 190 * 191 // 2)
        self.assertEqual(sparse.raised(2), sparse * sparse)
        few = Powers(sparse.terms[:20])
        self.assertEqual(few.raised(4), few * few * few * few)
        self.assertLess(time.monotonic() - begin, 60)

    def test_large_numbers(self):
        huge = 10 ** 399 + 7
        one = Powers([((huge, -huge, 0), huge), ((0, 0, 1), -huge)])
        self.assertEqual(one * one, Powers([((2 * huge, -2 * huge, 0), huge ** 2), ((0, 0, 2), huge ** 2),
                                            ((huge, -huge, 1), -2 * huge ** 2)]))
        self.assertEqual(one.raised(2), one * one)


class Parts(unittest.TestCase):

    def test_constant_and_part_at(self):
        one = Powers([((0, 0, 0), 5), ((1, -2, BIG), -7)])
        self.assertEqual((one.constant(), Powers([]).constant(), (one - 5).constant()), (5, 0, 0))
        self.assertEqual(one.part_at((0, 0, 0)), 5)
        self.assertEqual(one.part_at([1, -2, BIG]), -7)
        self.assertEqual(one.part_at((-1, 2, -BIG)), 0)

    def test_moved(self):
        chance = random.Random(54)
        for _ in range(50):
            terms = random_terms(chance)
            by = tuple(chance.choice((0, -3, 2, BIG)) for _ in range(3))
            wanted = Powers([([a + b for a, b in zip(power, by)], number) for power, number in terms])
            self.assertEqual(Powers(terms).moved(by), wanted)
            self.assertEqual(Powers(terms).moved(list(by)), wanted)

    def test_errors_of_part_at_and_moved(self):
        one = Powers([((0, 0, 0), 5)])
        for exponents in NO_TRIPLES:
            for action in (one.part_at, one.moved):
                with self.assertRaises(BadRow) as caught:
                    action(exponents)
                self.assertIs(caught.exception.row, exponents)

    def test_parts(self):
        chance = random.Random(55)
        for _ in range(100):
            terms = random_terms(chance, 8)
            for p in (1, 2, 3, 4, BIG):
                wanted = Powers([([e // p for e in power], number) for power, number in terms
                                 if not any(e % p for e in power)])
                told = Powers(terms).parts(p)
                self.assertEqual(told, wanted)
                self.assertEqual(told.constant(), Powers(terms).constant())
        self.assertEqual(Powers([((-4, 0, 2), 3), ((-3, 0, 2), 3), ((0, 0, 1), 1)]).parts(2),
                         Powers([((-2, 0, 1), 3)]))

    def test_facts_about_parts(self):
        chance = random.Random(56)
        for _ in range(50):
            one, other = Powers(random_terms(chance)), Powers(random_terms(chance, 8))
            for p in (2, 3):
                spread = Powers([([p * e for e in power], number) for power, number in one.terms])
                self.assertEqual((spread * other).parts(p), one * other.parts(p))

    def test_modulo(self):
        chance = random.Random(57)
        for _ in range(100):
            terms = random_terms(chance, 8)
            for m in (1, 2, 9, 10 ** 30):
                wanted = {power: number % m for power, number in as_dict(terms).items() if number % m}
                self.assertEqual(Powers(terms).modulo(m).terms, as_terms(wanted))
        self.assertEqual(Powers([((1, 0, 0), -1), ((0, 1, 0), 4)]).modulo(4), Powers([((1, 0, 0), 3)]))
        self.assertEqual(Powers([((1, 0, 0), -1)]).modulo(1), 0)

    def test_errors_of_parts_and_modulo(self):
        one = Powers([((0, 0, 0), 5)])
        for number in NO_NUMBERS + (0,):
            for action, what in ((one.parts, "p"), (one.modulo, "modulus")):
                with self.assertRaises(BadNumber) as caught:
                    action(number)
                self.assertEqual(caught.exception.what, what)
                self.assertIs(caught.exception.number, number)


if __name__ == "__main__":
    unittest.main()
