"""Counts along the powers of the prime, and along words that stand one behind the other."""

from restcounts.arithmetic import power_of
from restcounts.errors import BadNumber, BadRow, TooMany
from restcounts.kinds import is_integer, is_integers
from restcounts.moduli import digits, prime_power
from restcounts.returning import rows_until_back
from restcounts.systems import (
    System, column_at, dot, first_rests_of, packed_tables, row_at, shortened, turned_tables)
from restcounts.telling import exact_system_of_tree

MOST_C = 999
MOST_D = 999
MOST_WORD = 100
MOST_PERIOD = 1000


class Along:
    """From where on, and after how many, rests come again, and all rests up to there."""

    def __init__(self, start, period, rests):
        self.start = start
        self.period = period
        self.rests = tuple(rests)


class Run:
    """From where on, and after how many, rows of rests come again."""

    def __init__(self, start, period):
        self.start = start
        self.period = period


def along_powers(count, m, c, d):
    """The Along of the rests at c * p^L + d."""
    p, _ = prime_power(m)
    if not is_integer(c) or c < 1 or c > MOST_C:
        raise BadNumber("c", c)
    if not is_integer(d) or d < -c or d > MOST_D:
        raise BadNumber("d", d)
    system = exact_system_of_tree(count.tree, m)
    places = 0
    while power_of(p, places) < abs(d) or power_of(p, places) <= d:
        places = places + 1
    firsts = first_rests_of(system, [c * power_of(p, at) + d for at in range(places)])[0]
    # From here on c * p^L + d has the digits of d, zeros and those of c; or if d is below 0,
    # the digits of p^places + d, digits p - 1 and the digits of c - 1.
    low = digits(d if d >= 0 else power_of(p, places) + d, p)
    low = low + (0,) * (places - len(low))
    if d >= 0:
        return along_of(system, firsts, low, (0,), digits(c, p))
    return along_of(system, firsts, low, (p - 1,), digits(c - 1, p))


def along_words(count, m, low, middle, high):
    """The Along of the rests at the words low, so many times middle, and high."""
    p, _ = prime_power(m)
    for word in (low, middle, high):
        if (not is_integers(word) or len(word) > MOST_WORD
                or not all([0 <= digit < p for digit in word])):
            raise BadRow(word)
    return along_of(exact_system_of_tree(count.tree, m), [], low, middle, high)


def along_of(system, firsts, low, middle, high):
    """The Along of some first rests and of those at low, so many times middle, and high."""
    m, width = system.m, system.width
    tables = packed_tables(system.moves, m)
    row = row_at(system.starts[0], tables, low, width, m)
    table = tuple([row_at(one, tables, middle, width, m) for one in unit_rows(width)])
    column = column_at(system, packed_tables(turned_tables(system.moves), m), high)
    # Where rows that tell the same are the same, the rests come again as the rows do.
    single = shortened(System(m, (row,), (table,), column))
    rows, start = rows_until_period(single.starts[0], single.moves[0], single.width, m)
    rests = firsts + [dot(told, single.ends) % m for told in rows]
    period = len(rows) - start
    start = len(firsts) + start
    while start > 0 and rests[start - 1] == rests[start - 1 + period]:
        start = start - 1
    return Along(start, period, rests[:start + period])


def unit_rows(width):
    """The rows with a single 1."""
    return [(0,) * at + (1,) + (0,) * (width - 1 - at) for at in range(width)]


def rows_until_period(row, table, width, m):
    """The rows to which a table leads until they come again; TooMany if the period is too long."""
    # A lot shrinks at most k times for each place until its table leads it to all of itself,
    # and from then on all rows come back.
    _, k = prime_power(m)
    packed = packed_tables((table,), m)[0]
    found = rows_until_back(row, packed, width, m, k * width + MOST_PERIOD)
    if found is None or len(found[0]) - found[1] > MOST_PERIOD:
        raise TooMany("period", MOST_PERIOD)
    return found


def run_of(count, m, digit):
    """The Run of the residuals behind a digit that stands so many times."""
    p, _ = prime_power(m)
    if not is_integer(digit) or digit < 0 or digit >= p:
        raise BadNumber("digit", digit)
    system = exact_system_of_tree(count.tree, m)
    rows, start = rows_until_period(system.starts[0], system.moves[digit], system.width, m)
    return Run(start, len(rows) - start)
