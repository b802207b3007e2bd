"""Sums of powers, counts and tables worked out plainly, straight from their description."""

from itertools import product

from restcounts.moduli import prime_power
from restcounts.powers import powers_of

MODULI = (2, 4, 8, 16, 3, 9, 27, 5, 25, 7)
NO_MODULI = (0, 1, 6, 32, -2, True, False, "2", None, 2.0, (2,), [4], 10 ** 60)
NO_NUMBERS = (-1, -10 ** 60, True, False, None, "1", 1.0, (1,), [1])
NO_ROWS = (None, 5, "12", b"12", {1: 2}, {1, 2}, range(2), (1, True), [1, None], (1, 2.0), ("1", "2"),
           ((1, 2),))
ONE = {(0, 0, 0): 1}


def summed(one, other):
    """The sum of two sums of powers, told as dicts from exponents to numbers."""
    total = dict(one)
    for power, number in other.items():
        total[power] = total.get(power, 0) + number
    return {power: number for power, number in total.items() if number}


def multiplied(one, other):
    total = {}
    for power, number in one.items():
        for power2, number2 in other.items():
            at = tuple(a + b for a, b in zip(power, power2))
            total[at] = total.get(at, 0) + number * number2
    return {power: number for power, number in total.items() if number}


def constants(steps, ends, many):
    """The constant parts of steps to the power n times ends, n below many, by multiplying."""
    found, power = [], dict(ONE)
    for _ in range(many):
        found.append(sum(number * ends.get(tuple(-e for e in at), 0) for at, number in power.items()))
        power = multiplied(power, steps)
    return found


class Plain:
    """A count by its first values, put together as [13] says."""

    def __init__(self, text, at):
        self.text = text
        self.at = at

    def __add__(self, other):
        return Plain(f"({self.text}) + {other.text}", lambda n: self.at(n) + other.at(n))

    def __sub__(self, other):
        return Plain(f"({self.text}) - ({other.text})", lambda n: self.at(n) - other.at(n))

    def __mul__(self, other):
        return Plain(f"({self.text}) * ({other.text})", lambda n: self.at(n) * other.at(n))

    def __neg__(self):
        return Plain(f"-({self.text})", lambda n: -self.at(n))


def number(i):
    return Plain(str(i), lambda n: i)


def walk(steps, ends="1", many=40):
    """The count of a walk; steps and ends are texts of sums of powers."""
    values = []

    def at(n):
        # Worked out when first asked for, and then for a good many n at once.
        while len(values) <= n:
            values[:] = constants(terms_of(steps), terms_of(ends), max(many, n + 1))
        return values[n]
    return Plain(f"walk[{steps}]" if ends == "1" else f"walk[{steps}; {ends}]", at)


def terms_of(text):
    """The sum that a text tells, as a dict."""
    return dict(powers_of(text).terms)


def jump(c, d, one):
    return Plain(f"at[{c}, {d}: {one.text}]", lambda n: one.at(c * n + d))


def next_of(one):
    return Plain(f"next[{one.text}]", lambda n: one.at(n + 1))


def step_of(one):
    return Plain(f"step[{one.text}]", lambda n: one.at(n + 1) - one.at(n))


def sum_of(one):
    return Plain(f"sum[{one.text}]", lambda n: sum(one.at(i) for i in range(n)))


def fold_of(one, other):
    return Plain(f"fold[{one.text}, {other.text}]",
                 lambda n: sum(one.at(i) * other.at(n - i) for i in range(n + 1)))


def word_of(n, p):
    found = []
    while n:
        found.append(n % p)
        n //= p
    return tuple(found)


def words(p, most):
    """All words of at most so many digits, the short ones first, each length ascending."""
    for many in range(most + 1):
        yield from product(range(p), repeat=many)


def led(m, row, table):
    return tuple(sum(a * line[j] for a, line in zip(row, table)) % m for j in range(len(row)))


def value_along(m, first, moves, ends, word):
    """The value of tables at a word, by multiplying from the left."""
    row = first
    for digit in word:
        row = led(m, row, moves[digit])
    return sum(a * b for a, b in zip(row, ends)) % m


def rows_met(m, first, moves):
    """All rows that words of digits reach."""
    found, todo = set(), [tuple(number % m for number in first)]
    while todo:
        row = todo.pop()
        if row not in found:
            found.add(row)
            todo += [led(m, row, table) for table in moves]
    return found


def random_parts(chance, m, size, factor=1):
    """The first row, the moves and the ends of tables, all numbers multiples of factor."""
    p, _ = prime_power(m)

    def row():
        return tuple(factor * chance.choice((0, 1, chance.randrange(m))) % m for _ in range(size))
    return row(), tuple(tuple(row() for _ in range(size)) for _ in range(p)), row()


def steady_parts(chance, m, size, factor=1):
    """The parts of tables for which a digit 0 leads every row to one with the same value."""
    first, moves, ends = random_parts(chance, m, size, chance.choice((1, factor)))
    if not any(ends):
        return first, moves, ends
    at = min(range(size), key=lambda i: prime_part(ends[i], m))
    table = []
    for i, row in enumerate(moves[0]):
        rest = ends[i] - sum(a * b for j, (a, b) in enumerate(zip(row, ends)) if j != at)
        fitting = next(a for a in range(m) if (a * ends[at] - rest) % m == 0)
        table.append(row[:at] + (fitting,) + row[at + 1:])
    return first, (tuple(table),) + moves[1:], ends


def prime_part(number, m):
    """The greatest divisor of m that divides number."""
    return max(t for t in range(1, m + 1) if m % t == 0 and number % t == 0)
