"""Relations and rules of counts, for all n."""

from restcounts.arithmetic import power_of
from restcounts.combining import side_by_side
from restcounts.errors import BadNumber, TooMany
from restcounts.kinds import is_integer
from restcounts.lots import Lot, kernel, multiples
from restcounts.moduli import prime_power
from restcounts.packing import unpack
from restcounts.searching import least_number
from restcounts.systems import System, dot, first_rests_of, led, led_by_all, packed_tables, shortened
from restcounts.telling import short_system_of_tree, system_of_tree

MOST_COUNTS = 8
MOST_J = 6


def check_counts(counts, m):
    """Raise the errors of relations(counts, m)."""
    prime_power(m)
    if not counts:
        raise BadNumber("counts", 0)
    if len(counts) > MOST_COUNTS:
        raise TooMany("counts", MOST_COUNTS)


def counts_system(counts, m):
    """A system with one start for each count, as short as can be."""
    return shortened(side_by_side([system_of_tree(count.tree, m) for count in counts]))


def lot_of_values(system):
    """The Lot made by the rows of what the starts of a shortened system tell, for all n."""
    # The system is shortened: at each place the starts have what they tell with one of some
    # columns, and those to which words lead the ends are sums of multiples of these.
    rows = [tuple(column) for column in zip(*system.starts)]
    return Lot(system.m, len(system.starts), rows)


def annihilator(lot):
    """The Lot of all rows that make the sum 0 with each row of the lot."""
    rows = [tuple([row[at] for row in lot.rows]) for at in range(lot.width)]
    return kernel(lot.m, len(lot.rows), rows)


def relations(counts, m):
    """The Lot of all relations of the counts."""
    check_counts(counts, m)
    return annihilator(lot_of_values(counts_system(counts, m)))


def made_of(count, counts, m):
    """Rests by which the counts add up to count for all n; None if there are none."""
    check_counts(counts, m)
    lot = lot_of_values(counts_system([count] + list(counts), m))
    rows = [tuple([row[at] for row in lot.rows]) for at in range(lot.width)]
    return multiples(m, len(lot.rows), rows[1:], rows[0])


def values_lot(counts, m):
    """The Lot made by the rows of the values of the counts, for all n."""
    check_counts(counts, m)
    return lot_of_values(counts_system(counts, m))


def enough(counts, m):
    """The least N so that relations of the first N values are relations for all n."""
    check_counts(counts, m)
    system = counts_system(counts, m)
    known = Lot(m, len(counts))
    many = 0
    while True:
        # The next row of values that is not in the lot of the earlier ones is the first one
        # at which some row that makes 0 with all of these does not make 0.
        starts = tuple([mixed_row(numbers, system.starts, m) for numbers in annihilator(known).rows])
        n = least_number(System(m, starts, system.moves, system.ends), many)
        if n is None:
            return many
        values = [rests[0] for rests in first_rests_of(system, (n,))]
        known = known.joined(Lot(m, len(counts), [values]))
        many = n + 1


def mixed_row(numbers, rows, m):
    """The sum of the rows, each times its number."""
    return tuple([dot(numbers, column) % m for column in zip(*rows)])


def residual_rows(system):
    """The start of a system, and the rows to which the digits lead it."""
    row = system.starts[0]
    tables = packed_tables(system.moves, system.m)
    return row, [unpack(led(row, table), system.width, system.m) for table in tables]


def rule(count, m):
    """For each digit the least c so that the count goes by it, or None."""
    prime_power(m)
    row, residuals = residual_rows(short_system_of_tree(count.tree, m))
    found = []
    for residual in residuals:
        fitting = [c for c in range(m) if mixed_row((c,), (row,), m) == residual]
        found.append(fitting[0] if fitting else None)
    return tuple(found)


def lucas(count, m):
    """None if the count is multiplied by its digits, otherwise the first place where not."""
    p, _ = prime_power(m)
    system = short_system_of_tree(count.tree, m)
    row, residuals = residual_rows(system)
    firsts = first_rests_of(system, tuple(range(p)))[0]
    starts = tuple([mixed_row((1, -first), (residual, row), m)
                    for first, residual in zip(firsts, residuals)])
    apart = System(m, starts, system.moves, system.ends)
    n = least_number(apart, 0)
    if n is None:
        return None
    unlike = [digit for digit, rests in enumerate(first_rests_of(apart, (n,))) if rests[0] != 0]
    return p * n + unlike[0]


def lasting(count, m):
    """The greatest t so that the values at p * n and at n are equal modulo p^t."""
    p, k = prime_power(m)
    row, residuals = residual_rows(short_system_of_tree(count.tree, m))
    changes = [a - b for a, b in zip(row, residuals[0])]
    lasts = [t for t in range(k + 1)
             if not any([change % power_of(p, t) != 0 for change in changes])]
    return max(lasts)


def zero_classes(count, m, j):
    """All zero classes of p^j."""
    p, _ = prime_power(m)
    if not is_integer(j) or j < 0 or j > MOST_J:
        raise BadNumber("j", j)
    system = short_system_of_tree(count.tree, m)
    tables = packed_tables(system.moves, m)
    rows = [system.starts[0]]
    for _ in range(j):
        # The digit that comes next is higher than all before.
        rows = led_by_all(rows, tables, system.width, m)
    return tuple([number for number, row in enumerate(rows) if not any(row)])
