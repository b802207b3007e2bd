"""Tables of digits: rests that are read off the digits of n."""

from restcounts.combining import (
    before_system, fold_system, jump_system, led_start, product_system, rests, sum_system)
from restcounts.errors import BadNumber, BadRow, Unlike
from restcounts.kinds import is_integer, is_integers, is_row
from restcounts.moduli import digits, prime_power
from restcounts.pivots import rows_of
from restcounts.systems import (
    System, closed, dot, first_rests_of, packed_tables, row_at)
from restcounts.telling import plain_system, system_of_tree


class Tables:
    """A row, one square table for each digit, and ends, modulo m."""

    def __init__(self, m, first, moves, ends):
        check_tables(m, first, moves, ends)
        self.m = m
        self.first = rests(first, m)
        self.moves = tuple([tuple([rests(row, m) for row in table]) for table in moves])
        self.ends = rests(ends, m)
        self.size = len(self.first)
        self._packed = packed_tables(self.moves, m)

    def at(self, n):
        """The value at the digits of n."""
        p, _ = prime_power(self.m)
        return self.along(digits(n, p))

    def along(self, word):
        """The value at a word of digits."""
        p, _ = prime_power(self.m)
        if not is_integers(word) or not all([0 <= digit < p for digit in word]):
            raise BadRow(word)
        row = row_at(self.first, self._packed, word, self.size, self.m)
        return dot(row, self.ends) % self.m


def check_tables(m, first, moves, ends):
    """Raise the errors of Tables(m, first, moves, ends)."""
    p, _ = prime_power(m)
    if not is_integers(first):
        raise BadRow(first)
    width = len(first)
    if not is_list(moves, p):
        raise BadRow(moves)
    for table in moves:
        if not is_list(table, width):
            raise BadRow(table)
        for row in table:
            if not is_row(row, width):
                raise BadRow(row)
    if not is_row(ends, width):
        raise BadRow(ends)


def is_list(value, many):
    """Whether value is a tuple or list of so many items."""
    return isinstance(value, (tuple, list)) and len(value) == many


def system_of(tables):
    """The system with the first row of the tables as its start."""
    return System(tables.m, (tables.first,), tables.moves, tables.ends)


def as_tables(system):
    """The Tables with the start of the system as their first row."""
    return Tables(system.m, system.starts[0], system.moves, system.ends)


def is_steady(tables):
    """Whether a digit 0 at the end of a word changes no value."""
    m = tables.m
    packed = packed_tables(tables.moves, m)
    pivots = closed((tables.first,), packed, tables.size, m)
    changes = [dot(row, tables.ends) - end for row, end in zip(tables.moves[0], tables.ends)]
    rows = rows_of(pivots, tables.size, m)
    return all([dot(row, changes) % m == 0 for row in rows])


def tables_of(count, m):
    """Tables that tell the count modulo m."""
    prime_power(m)
    return as_tables(system_of_tree(count.tree, m))


def rest_at(count, n, m):
    """The rest of the value of the count at n."""
    if not is_integer(n) or n < 0:
        raise BadNumber("n", n)
    prime_power(m)
    # For one n alone it is not worth while to look for fewer rows.
    return first_rests_of(plain_system(count.tree, m), (n,))[0][0]


def check_moduli(one, other):
    """Raise Unlike unless both have the same modulus."""
    if one.m != other.m:
        raise Unlike("modulus")


def plus(one, other):
    """Tables that tell the sum."""
    check_moduli(one, other)
    return as_tables(sum_system((1, 1), (system_of(one), system_of(other))))


def times(one, other):
    """Tables that tell the product."""
    check_moduli(one, other)
    return as_tables(product_system(system_of(one), system_of(other)))


def scaled(one, number):
    """Tables that tell a multiple."""
    return Tables(one.m, one.first, one.moves, [number * end for end in one.ends])


def along_first(one, digit):
    """Tables that tell the value at the word with this digit put ahead."""
    p, _ = prime_power(one.m)
    if not is_integer(digit) or digit < 0 or digit >= p:
        raise BadNumber("digit", digit)
    return as_tables(led_start(system_of(one), digit))


def summed(one):
    """Tables that tell at n the sum of the values at all numbers below n."""
    return as_tables(before_system(system_of(one)))


def folded(one, other):
    """Tables that tell the sum of the products of values at numbers that add up to n."""
    check_moduli(one, other)
    return as_tables(fold_system(system_of(one), system_of(other)))


def jumped(one, c, d):
    """Tables that tell at n the value at c * n + d."""
    if not is_integer(c) or c < 1:
        raise BadNumber("c", c)
    if not is_integer(d) or d < 0:
        raise BadNumber("d", d)
    return as_tables(jump_system(system_of(one), c, d))
