"""Deeper rules of counts, for all n."""

from restcounts.combining import jump_system
from restcounts.errors import BadNumber, TooLarge, TooMany
from restcounts.kinds import is_integer
from restcounts.likeness import same_tables
from restcounts.lots import kernel
from restcounts.moduli import digits, number_of, prime_power
from restcounts.pivots import pivots_of, size_of
from restcounts.returning import rows_until_back
from restcounts.systems import (
    System, column_at, dot, first_rests_of, led_by_all, makers_met, needed, packed_tables, row_at,
    turned_tables)
from restcounts.tables import as_tables, scaled
from restcounts.telling import exact_system_of_tree, system_of_tree

MOST_LENGTH = 200
MOST_RESIDUALS = 400
MOST_FACTOR = 12
# So many values are compared one by one.
MANY_VALUES = 60


class Round:
    """From which residual on, and after how many, the residuals with zeros below come again."""

    def __init__(self, start, length, tables):
        self.start = start
        self.length = length
        self.tables = tuple(tables)


def numbered_columns(system):
    """Columns that make the lot of all columns of a system, with the numbers that they tell."""
    # A column of a number is led by one digit more below it.
    p, _ = prime_power(system.m)
    tables = packed_tables(turned_tables(system.moves), system.m)
    made = makers_met(system.ends, tables, system.width, system.m)
    return [(number_of(tuple(reversed(word)), p), column) for word, column in made]


def deciders(count, m):
    """As few integers as can decide the count."""
    prime_power(m)
    system = system_of_tree(count.tree, m)
    made = numbered_columns(system)
    places = needed([column for _, column in made], system.width, m)
    return tuple(sorted([made[at][0] for at in places]))


def decides(count, m, numbers):
    """Whether integers decide the count."""
    p, _ = prime_power(m)
    # The rows of the least system make all mixtures, and a mixture is told by what the columns
    # tell of these rows. So the numbers decide if their columns make all others.
    system = system_of_tree(count.tree, m)
    turned = packed_tables(turned_tables(system.moves), m)
    columns = [column_at(system, turned, digits(n, p)) for n in numbers]
    wanted = [column for _, column in numbered_columns(system)]
    return (size_of(pivots_of(columns, system.width, m), m)
            == size_of(pivots_of(wanted, system.width, m), m))


def order_free(count, m):
    """None if the count is free of order, otherwise a pair of integers that shows that it is not."""
    p, _ = prime_power(m)
    system = exact_system_of_tree(count.tree, m)
    tables = packed_tables(system.moves, m)
    for word, row in makers_met(system.starts[0], tables, system.width, m):
        for digit in range(p):
            for digit2 in range(digit):
                one = row_at(row, tables, (digit2, digit), system.width, m)
                other = row_at(row, tables, (digit, digit2), system.width, m)
                if one != other:
                    above = number_that_parts(system, one, other)
                    return (number_of(word + (digit2, digit) + digits(above, p), p),
                            number_of(word + (digit, digit2) + digits(above, p), p))
    return None


def number_that_parts(system, one, other):
    """A number that two rows of an exact system lead to unlike rests."""
    apart = [number for number, column in numbered_columns(system)
             if (dot(one, column) - dot(other, column)) % system.m != 0]
    return apart[0]


def settles(count, m):
    """The Round of the count."""
    prime_power(m)
    system = exact_system_of_tree(count.tree, m)
    table = packed_tables((system.moves[0],), m)[0]
    found = rows_until_back(system.starts[0], table, system.width, m, MOST_LENGTH)
    if found is None:
        raise TooMany("length", MOST_LENGTH)
    rows, start = found
    tables = [as_tables(System(m, (row,), system.moves, system.ends)) for row in rows[start:]]
    return Round(start, len(tables), tables)


def residual_relations(count, m, j):
    """The Lot of all relations of the residuals up to j."""
    p, _ = prime_power(m)
    if not is_integer(j) or j < 0:
        raise BadNumber("j", j)
    check_places(p, j)
    system = exact_system_of_tree(count.tree, m)
    tables = packed_tables(system.moves, m)
    level = [system.starts[0]]
    rows = level
    for _ in range(j):
        level = led_by_all(level, tables, system.width, m)
        rows = rows + level
    return kernel(m, system.width, rows)


def check_places(p, j):
    """Raise TooMany if there are too many residuals up to j."""
    places = 1
    level = 1
    for _ in range(min(j, MOST_RESIDUALS)):
        level = level * p
        places = places + level
        if places > MOST_RESIDUALS:
            raise TooMany("places", MOST_RESIDUALS)


def likenesses(count, m, most):
    """All (c, d, u) so that the count at c * n + d is always the unit u times the count at n."""
    p, _ = prime_power(m)
    if not is_integer(most) or most < 2:
        raise BadNumber("most", most)
    if most > MOST_FACTOR:
        raise TooLarge("most", most, MOST_FACTOR)
    system = system_of_tree(count.tree, m)
    tables = as_tables(system)
    # At numbers that decide the count, two multiples of it are unlike unless they are the same.
    points = list(range(MANY_VALUES)) + [n for n, _ in numbered_columns(system)]
    values = first_rests_of(system, points)[0]
    units = [u for u in range(m) if u % p != 0]
    found = []
    for c in range(2, most + 1):
        for d in range(c):
            wanted = first_rests_of(system, [c * n + d for n in points])[0]
            fitting = [u for u in units if fits(u, values, wanted, m)]
            if fitting:
                jumped = as_tables(jump_system(system, c, d))
                if same_tables(jumped, scaled(tables, fitting[0])) is not None:
                    found.append((c, d, fitting[0]))
    return tuple(found)


def fits(u, values, wanted, m):
    """Whether u times the values are the wanted rests."""
    return all([(u * value - rest) % m == 0 for value, rest in zip(values, wanted)])
