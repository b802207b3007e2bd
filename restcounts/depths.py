"""How often the prime divides counts, for all n."""

from restcounts.arithmetic import power_of
from restcounts.errors import BadNumber, TooMany
from restcounts.kinds import is_integer
from restcounts.machines import MOST_STATES, least_made
from restcounts.moduli import prime_power
from restcounts.packing import unpack
from restcounts.searching import NEAR, least_number, near_number
from restcounts.states import explored, least_number_of
from restcounts.systems import System, dot, led, least_system, packed_tables
from restcounts.telling import exact_system_of_tree, short_system_of_tree, system_of_tree


def depth_of(number, m):
    """The greatest j up to k so that p^j divides the number."""
    p, k = prime_power(m)
    depth = 0
    while depth < k and number % p == 0:
        number = number // p
        depth = depth + 1
    return depth


def inverse_of(unit, m):
    """The number by which this one, which the prime does not divide, makes 1 modulo m."""
    return min([number for number in range(m) if number * unit % m == 1])


def up_to_units(row, m):
    """The same row for all rows that are this one times a number that the prime does not divide."""
    p, _ = prime_power(m)
    depths = [depth_of(number, m) for number in row]
    least = min(depths, default=0)
    power = power_of(p, least)
    if power == m or not row:
        return row
    # The first of the numbers that are divided least is made a power of the prime. All that
    # makes it this power does the same to the others, as they are divided as often.
    factor = inverse_of(row[depths.index(least)] // power % m, m)
    return tuple([number * factor % m for number in row])


def depth_machine(count, m):
    """The least machine that tells the depth of the count."""
    p, _ = prime_power(m)
    system = exact_system_of_tree(count.tree, m)
    tables = packed_tables(system.moves, m)

    def lead(row, digit):
        return up_to_units(unpack(led(row, tables[digit]), system.width, m), m)

    rows, moves = explored(up_to_units(system.starts[0], m), lead, p, None)
    machine = least_made(p, moves, [depth_of(dot(row, system.ends), m) for row in rows])
    if machine.size > MOST_STATES:
        raise TooMany("states", MOST_STATES)
    return machine


def always_divides(count, m):
    """The greatest j so that p^j divides the count for all n."""
    _, k = prime_power(m)
    # A row of a shortened system that tells 0 for all n is the row of zeros.
    row = short_system_of_tree(count.tree, m).starts[0]
    return min([depth_of(number, m) for number in row], default=k)


def check_j(m, j):
    """Raise BadNumber for what is no depth modulo m."""
    _, k = prime_power(m)
    if not is_integer(j) or j < 0 or j > k:
        raise BadNumber("j", j)


def least_not(count, m, j):
    """The least n at which p^j does not divide the count; None if there is none."""
    check_j(m, j)
    p, k = prime_power(m)
    system = system_of_tree(count.tree, m)
    # p^j divides a number if p^(k - j) times the number is 0 modulo m.
    start = tuple([power_of(p, k - j) * number % m for number in system.starts[0]])
    scaled = least_system(System(m, (start,), system.moves, system.ends))
    # Most such n are low; the search takes longer.
    near = near_number(scaled, 0)
    return least_number(scaled, NEAR) if near is None else near


def least_at(count, m, j):
    """The least n at which the count has the depth j; None if there is none."""
    check_j(m, j)
    machine = depth_machine(count, m)
    return least_number_of(machine.moves, machine.worths, j, machine.p)
