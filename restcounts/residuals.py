"""Residuals of tables, and tables of the least size."""

from restcounts.arithmetic import power_of
from restcounts.errors import BadNumber, Unlike
from restcounts.kinds import is_integer
from restcounts.lots import Lot, kernel
from restcounts.moduli import digits, prime_power
from restcounts.pivots import pivots_of, rows_of, size_of
from restcounts.systems import closed, least_system, packed_tables, row_at, shortened, turned_tables
from restcounts.tables import Tables, as_tables, is_steady, system_of
from restcounts.telling import system_of_tree

MOST_PLACES = 200


def reached(tables):
    """The Lot of all sums of multiples of reached rows."""
    return Lot(tables.m, tables.size, rows_met(tables.first, tables.moves, tables.m))


def blind(tables):
    """The Lot of all blind rows."""
    # A row is blind if it makes 0 with all columns to which words lead the ends.
    columns = rows_met(tables.ends, turned_tables(tables.moves), tables.m)
    rows = [tuple([column[at] for column in columns]) for at in range(tables.size)]
    return kernel(tables.m, len(columns), rows)


def rows_met(row, moves, m):
    """Rows that make the lot of all rows to which words of digits lead this row."""
    width = len(row)
    pivots = closed((row,), packed_tables(moves, m), width, m)
    return rows_of(pivots, width, m)


def behind(tables, places, number):
    """The Tables whose first row is the one reached by so many digits of number."""
    p, _ = prime_power(tables.m)
    if not is_integer(places) or places < 0 or places > MOST_PLACES:
        raise BadNumber("places", places)
    if not is_integer(number) or number < 0 or number >= power_of(p, places):
        raise BadNumber("number", number)
    word = digits(number, p)
    word = word + (0,) * (places - len(word))
    first = row_at(tables.first, packed_tables(tables.moves, tables.m), word, tables.size, tables.m)
    return Tables(tables.m, first, tables.moves, tables.ends)


def least_tables(tables):
    """Steady Tables of the least size with equal values at all n."""
    check_steady(tables)
    return as_tables(least_system(system_of(tables)))


def check_steady(tables):
    """Raise Unlike unless the tables are steady."""
    if not is_steady(tables):
        raise Unlike("steady")


def orders(tables):
    """The orders of the row that the tables tell, ascending."""
    check_steady(tables)
    p, k = prime_power(tables.m)
    # In the shortened system two mixtures are the same only if their rows are equal.
    system = shortened(system_of(tables))
    m, width = system.m, system.width
    pivots = closed(system.starts, packed_tables(system.moves, m), width, m)
    rows = rows_of(pivots, width, m)
    # steps[t] tells how many orders are above p^t.
    steps = []
    size = size_of(pivots, m)
    for _ in range(k):
        rows = [tuple([p * number % m for number in row]) for row in rows]
        size_below = size_of(pivots_of(rows, width, m), m)
        steps.append(len(digits(size // size_below, p)) - 1)
        size = size_below
    steps.append(0)
    found = []
    order = p
    for many, more in zip(steps, steps[1:]):
        found = found + [order] * (many - more)
        order = order * p
    return tuple(found)


def fewest(count, m):
    """The least size of steady Tables that tell the count."""
    prime_power(m)
    return system_of_tree(count.tree, m).width
