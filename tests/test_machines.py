"""[56], [57], [58], [59] machines that read the digits of numbers."""

import random
import time
import unittest

from plain_counts import MODULI, NO_MODULI, NO_NUMBERS, NO_ROWS, word_of
from plain_machines import random_machine, random_machines
from restcounts.counts import Count
from restcounts.errors import BadNumber, BadRow, TooMany, Unlike
from restcounts.machines import (
    Machine, comes, comes_again, first_unlike, last, least_machine, machine_of, mapped, paired)
from restcounts.moduli import prime_power
from restcounts.residuals import behind
from restcounts.tables import rest_at, tables_of

BASES = (2, 3, 5, 7)


class Making(unittest.TestCase):

    def test_attributes_and_copies(self):
        moves, worths = [[0, 1], [1, 0]], [3, 3]
        machine = Machine(2, moves, worths)
        moves[0][0] = 1
        moves.append([0, 0])
        worths[0] = 9
        self.assertEqual((machine.p, machine.moves, machine.worths, machine.size), (2, ((0, 1), (1, 0)), (3, 3), 2))
        self.assertTrue(all(type(row) is tuple for row in machine.moves))
        self.assertEqual(machine, Machine(2, ((0, 1), (1, 0)), (3, 3)))

    def test_all_bases(self):
        for p in BASES:
            machine = Machine(p, [[0] + [1] * (p - 1), [1] + [0] * (p - 1)], [10 ** 60, -1])
            for n in range(p ** 3):
                odd = sum(1 for digit in word_of(n, p) if digit) % 2
                self.assertEqual(machine.at(n), (10 ** 60, -1)[odd])

    def test_at(self):
        for chance, machine in random_machines(401, 200):
            p = machine.p
            self.assertEqual(machine.at(0), machine.worths[0])
            for n in [chance.randrange(p ** 4) for _ in range(5)] + [p ** 59 + p ** 30, chance.randrange(10 ** 60)]:
                state = 0
                for digit in word_of(n, p):
                    state = machine.moves[state][digit]
                self.assertEqual(machine.at(n), machine.worths[state])

    def test_at_errors(self):
        machine = Machine(2, [[0, 0]], [1])
        for value in NO_NUMBERS:
            with self.assertRaises(BadNumber) as caught:
                machine.at(value)
            self.assertEqual((caught.exception.what, caught.exception.number), ("n", value))

    def test_equality(self):
        one = Machine(3, [[0, 1, 1], [1, 0, 0]], [1, 2])
        self.assertTrue(one == Machine(3, ((0, 1, 1), (1, 0, 0)), (1, 2)))
        self.assertFalse(one == Machine(3, [[0, 1, 1], [1, 0, 0]], [1, 3]))
        self.assertFalse(one == Machine(3, [[0, 1, 1], [1, 0, 1]], [1, 2]))
        self.assertFalse(one == Machine(3, [[0, 1, 1], [1, 0, 0], [0, 0, 0]], [1, 2, 1]))
        self.assertFalse(Machine(2, [[0, 0]], [1]) == Machine(3, [[0, 0, 0]], [1]))
        for value in (None, 5, "machine", (), (3, one.moves, one.worths), Count("1")):
            self.assertIs(one == value, False)
            self.assertTrue(one != value)

    def check(self, error, told, *arguments):
        with self.assertRaises(error) as caught:
            Machine(*arguments)
        self.assertIs(type(caught.exception), error)
        self.assertEqual(tuple(vars(caught.exception).values()), told)

    def test_errors(self):
        for value in (0, 1, 4, 6, 8, 11, -2, True, None, "2", 2.0, (2,)):
            self.check(BadNumber, ("p", value), value, [], None)
        for moves in ([], ()):
            self.check(BadNumber, ("states", 0), 2, moves, None)
        for at in range(3):
            for row in NO_ROWS + ((), (0,), (0, 0, 0), (0, 4), (-1, 0), (0, 10 ** 60), [0, True], (0, "1")):
                moves = [[0, 1], (1, 2), [2, 0]]
                moves[at] = row
                self.check(BadRow, (row,), 2, moves, None)
                self.check(BadRow, (row,), 2, moves[:at + 1] + [None], [5])
        for worths in NO_ROWS + ((), (1,), (1, 1, 1), (1, True), [1, "1"]):
            self.check(BadRow, (worths,), 2, [[1, 0], [0, 1]], worths)
        self.check(Unlike, ("zeros",), 2, [[1, 0], [0, 1]], (1, 2))
        self.check(Unlike, ("zeros",), 3, [[0, 1, 1], [1, 0, 0], [0, 2, 2]], (1, 2, 3))
        self.check(BadRow, ((0, 2),), 2, [(0, 1), (0, 2)], (1, 2, 3))
        Machine(7, [(0,) * 7], [0])


class Least(unittest.TestCase):

    def test_determined_by_what_is_told(self):
        for chance, machine in random_machines(402, 300):
            told = least_machine(machine)
            self.assertIs(type(told), Machine)
            p = machine.p
            self.assertLessEqual(told.size, machine.size)
            self.assertTrue(all(told.at(n) == machine.at(n) for n in range(120)))
            self.assertEqual(least_machine(told), told)
            self.assertEqual(told.moves, numbered_plainly(told.moves))
            self.assertEqual(told.size, states_plainly(machine))
            # The same machine with its states twice, in another order and with others unmet.
            twice = shuffled(chance, machine)
            self.assertEqual(least_machine(twice), told)
            self.assertEqual(twice.p, p)

    def test_known_ones(self):
        machine = Machine(2, [[2, 2], [1, 1], [0, 0]], [4, 5, 4])
        self.assertEqual(least_machine(machine), Machine(2, [[0, 0]], [4]))
        machine = Machine(3, [[0, 2, 1], [1, 0, 0], [2, 0, 1], [3, 3, 3]], [0, 1, 2, 3])
        self.assertEqual(least_machine(machine), Machine(3, [[0, 1, 2], [1, 0, 2], [2, 0, 0]], [0, 2, 1]))

    def test_of_counts(self):
        texts = ("walk[x+x^-1]", "walk[x+1+x^-1]", "sum[1]", "sum[sum[1]]", "0", "7", "at[2,0: walk[x+x^-1]]",
                 "walk[2]", "walk[x+x^-1+y+y^-1]", "fold[walk[x+x^-1], 1]", "walk[x;x^-5]")
        sizes = set()
        for m in MODULI:
            p, _ = prime_power(m)
            for text in texts:
                count = Count(text)
                try:
                    told = machine_of(count, m)
                except TooMany as error:
                    self.assertEqual((error.what, error.limit), ("states", 60))
                    self.assertGreater(residuals_plainly(count, m), 60)
                    sizes.add(61)
                    continue
                sizes.add(told.size)
                self.assertEqual(told.p, p)
                self.assertEqual(least_machine(told), told)
                for n in list(range(100)) + [p ** 60 + 7, 10 ** 60]:
                    self.assertEqual(told.at(n), rest_at(count, n, m))
        self.assertTrue({1, 2, 61} <= sizes)

    def test_just_sixty_states(self):
        for c in (1, 5, 32):
            count = Count(f"walk[x; x^-{c}]")
            self.assertEqual(machine_of(count, 2).size, residuals_plainly(count, 2))
        shift = 58
        for power in (57, 58, 59):
            count = chain(power)
            many = residuals_plainly(count, 2)
            if many <= 60:
                self.assertEqual(machine_of(count, 2).size, many)
            else:
                self.assertRaises(TooMany, machine_of, count, 2)
        self.assertEqual([residuals_plainly(chain(power), 2) for power in (shift - 1, shift)], [60, 61])

    def test_no_moduli(self):
        for value in NO_MODULI:
            with self.assertRaises(BadNumber) as caught:
                machine_of(Count("1"), value)
            self.assertEqual((caught.exception.what, caught.exception.number), ("modulus", value))


def chain(places):
    """A count that is 1 at n = 2 ** places alone, so that its machine counts the digits ahead."""
    return Count(f"walk[x; x^-{2 ** places}]")


def residuals_plainly(count, m):
    """How many residuals of the count there are, as far as the first values of each tell, to 61."""
    p, _ = prime_power(m)
    tables = tables_of(count, m)
    points = list(range(70)) + [p ** i for i in range(3, 63)]
    level, seen = [tables], set()
    while level:
        further = []
        for one in level:
            key = tuple(one.at(n) for n in points)
            if key not in seen:
                seen.add(key)
                if len(seen) > 60:
                    return 61
                further += [behind(one, 1, digit) for digit in range(p)]
        level = further
    return len(seen)


def numbered_plainly(moves):
    """The moves with the states numbered as they are first met."""
    order = [0]
    for state in order:
        order += [further for further in dict.fromkeys(moves[state]) if further not in order]
    return tuple(tuple(order.index(further) for further in moves[state]) for state in order)


def states_plainly(machine):
    """How many states are met and told apart by words, by going on as long as pairs are found."""
    met = {0}
    while True:
        more = met | {further for state in met for further in machine.moves[state]}
        if more == met:
            break
        met = more
    apart = {(s, t) for s in met for t in met if machine.worths[s] != machine.worths[t]}
    while True:
        more = apart | {(s, t) for s in met for t in met
                        if any(pair in apart for pair in zip(machine.moves[s], machine.moves[t]))}
        if more == apart:
            break
        apart = more
    return len({tuple((s, t) in apart for t in sorted(met)) for s in met})


def shuffled(chance, machine):
    """A machine that tells the same, with each state twice, two states unmet, in another order."""
    many = machine.size
    moves = [[further + chance.choice((0, many)) for further in row] for row in machine.moves * 2]
    worths = list(machine.worths * 2)
    moves += [[chance.choice((2 * many, 2 * many + 1)) for _ in range(machine.p)] for _ in range(2)]
    worths += [77, 77]
    order = [0] + chance.sample(range(1, len(moves)), len(moves) - 1)
    place = {state: at for at, state in enumerate(order)}
    return Machine(machine.p, [[place[further] for further in moves[state]] for state in order],
                   [worths[state] for state in order])


class Together(unittest.TestCase):

    def test_paired(self):
        chance = random.Random(403)
        for _ in range(150):
            p = chance.choice(BASES)
            one, other = random_machine(chance, p, 5), random_machine(chance, p, 5)
            both, pairs = paired(one, other)
            self.assertEqual(least_machine(both), both)
            self.assertEqual(pairs, tuple(sorted(set(pairs))))
            told = [(one.at(n), other.at(n)) for n in range(400)]
            self.assertTrue(all(pairs[both.at(n)] == told[n] for n in range(400)))
            self.assertEqual({pairs[value] for value, _ in comes(both)}, set(pairs))
        one = random_machine(chance, 5, 6)
        both, pairs = paired(one, one)
        self.assertEqual(pairs, tuple((value, value) for value, _ in comes(one)))
        self.assertEqual(mapped(both, {at: pair[0] for at, pair in enumerate(pairs)}), least_machine(one))
        self.assertIs(type(paired(one, one)), tuple)

    def test_first_unlike(self):
        chance = random.Random(404)
        nones = 0
        for _ in range(200):
            p = chance.choice(BASES)
            one = random_machine(chance, p, chance.randrange(1, 6))
            other = shuffled(chance, one) if chance.random() < 0.3 else random_machine(chance, p, 3)
            told = first_unlike(one, other)
            plain = next((n for n in range(3000) if one.at(n) != other.at(n)), None)
            self.assertEqual(told, plain)
            nones += told is None
        self.assertGreater(nones, 20)

    def test_unlike_late_or_never_met(self):
        # Both count digits 1 to the base 2; they differ only where 40 of them are met.
        ring = [[i, (i + 1) if i < 40 else 40] for i in range(41)]
        one = Machine(2, ring, [0] * 41)
        other = Machine(2, ring, [0] * 40 + [1])
        self.assertEqual(first_unlike(one, other), 2 ** 40 - 1)
        one = Machine(2, [[0, 0], [1, 1]], [0, 1])
        other = Machine(2, [[0, 0], [1, 1]], [0, 2])
        self.assertIsNone(first_unlike(one, other))
        # Unlike at 4 and at 3: the least number counts, not the word that comes first.
        one = Machine(5, [[0, 2, 0, 1, 1], [1] * 5, [2] * 5], [0, 1, 0])
        other = Machine(5, [[0] * 5], [0])
        self.assertEqual(first_unlike(one, other), 3)

    def test_mapped(self):
        for chance, machine in random_machines(405, 150):
            values = [value for value, _ in comes(machine)]
            numbers = {value: chance.randrange(3) for value in values}
            kept = dict(numbers)
            told = mapped(machine, numbers)
            self.assertEqual(numbers, kept)
            self.assertEqual(least_machine(told), told)
            self.assertTrue(all(told.at(n) == numbers[machine.at(n)] for n in range(100)))
            self.assertEqual(mapped(machine, {**numbers, 999: 5, -999: 7}), told)
            missing = chance.sample(values, chance.randrange(1, len(values) + 1))
            with self.assertRaises(BadNumber) as caught:
                mapped(machine, {value: 1 for value in values if value not in missing})
            self.assertEqual((caught.exception.what, caught.exception.number), ("value", min(missing)))
        self.assertEqual(mapped(Machine(2, [[0, 0], [1, 1]], [4, 5]), {4: -3}), Machine(2, [[0, 0]], [-3]))

    def test_unlike_bases(self):
        one, other = Machine(2, [[0, 0]], [1]), Machine(3, [[0, 0, 0]], [1])
        for call in (paired, first_unlike):
            with self.assertRaises(Unlike) as caught:
                call(one, other)
            self.assertEqual(caught.exception.what, "p")


class Telling(unittest.TestCase):

    def test_comes(self):
        for _, machine in random_machines(406, 200):
            first = {}
            for n in range(machine.p ** 5):
                first.setdefault(machine.at(n), n)
            self.assertEqual(comes(machine), tuple(sorted(first.items())))
        self.assertEqual(comes(Machine(2, [[0, 0], [1, 1]], [4, 5])), ((4, 0),))

    def test_least_numbers_not_first_words(self):
        # 1 at 9 = (4, 1) and at 6 = (1, 1) to the base 5.
        machine = Machine(5, [[0, 2, 0, 0, 1], [1, 3, 1, 1, 1], [2, 3, 2, 2, 2], [3] * 5], [0, 0, 0, 1])
        self.assertEqual(comes(machine), ((0, 0), (1, 6)))

    def test_again_and_last(self):
        endless = few = never = 0
        for _, machine in random_machines(407, 300, 4):
            p = machine.p
            values = sorted(set(machine.worths)) + [1000]
            met = {value: [n for n in range(p ** 5) if machine.at(n) == value] for value in values}
            for value in values:
                # With at most 4 states: a number of 5 digits goes round, so there are more of them.
                again = any(n >= p ** 4 for n in met[value])
                self.assertIs(comes_again(machine, value), again)
                self.assertEqual(last(machine, value), None if again or not met[value] else met[value][-1])
                endless += again
                few += bool(met[value]) and not again
                never += not met[value]
        self.assertTrue(min(endless, few, never) > 50)

    def test_last_ones(self):
        machine = Machine(3, [[1, 2, 2], [1, 1, 3], [2, 1, 3], [3, 3, 3]], [0, 0, 0, 1])
        self.assertEqual(last(Machine(2, [[1, 1], [1, 1]], [5, 5]), 5), None)
        self.assertEqual(last(machine, 1), None)
        # Zeros below lead to the state 1, from which nothing else comes.
        machine = Machine(5, [[1, 2, 2, 2, 1], [1] * 5, [3, 3, 3, 1, 3], [1, 1, 1, 1, 4], [1] * 5],
                          [0, 0, 0, 0, 0])
        self.assertTrue(comes_again(machine, 0))
        rows = [[3, 1, 1, 2, 2], [1] + [3] * 4, [2, 3, 3, 1, 3], [3] * 5]
        machine = Machine(5, rows, [0, 7, 8, 0])
        self.assertTrue(comes_again(machine, 7) is False or last(machine, 7) is None)

    def test_finitely_often(self):
        # The value is 1 at the numbers 1, 2, .., 6 alone, to the base 7; 2 for all later ones.
        machine = Machine(7, [[2] + [1] * 6, [1] + [3] * 6, [2] + [3] * 6, [3] * 7], [0, 1, 0, 2])
        self.assertIs(comes_again(machine, 1), False)
        self.assertEqual(last(machine, 1), 6)
        self.assertEqual(last(machine, 0), 0)
        self.assertIsNone(last(machine, 2))
        self.assertIsNone(last(machine, 3))
        self.assertEqual(comes(machine), ((0, 0), (1, 1), (2, 7)))

    def test_greatest_sizes(self):
        chance = random.Random(408)
        begin = time.time()
        for p in BASES:
            one, other = random_machine(chance, p, 60), random_machine(chance, p, 60)
            both, pairs = paired(one, other)
            self.assertEqual(pairs[both.at(10 ** 60)], (one.at(10 ** 60), other.at(10 ** 60)))
            first_unlike(one, other)
            self.assertIsNone(first_unlike(one, least_machine(one)))
            for value, n in comes(one):
                self.assertEqual(one.at(n), value)
                comes_again(one, value)
                last(one, value)
        self.assertLess(time.time() - begin, 20)


if __name__ == "__main__":
    unittest.main()
