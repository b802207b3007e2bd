"""Systems put together, so that they tell sums, products and the like.

All systems here have one row to begin with, but those that are set side by side.
"""

from restcounts.moduli import digits, prime_power
from restcounts.packing import unpack
from restcounts.systems import System, column_at, led, packed_tables, turned_tables


def number_system(number, m):
    """A system that tells a number everywhere."""
    p, _ = prime_power(m)
    return System(m, ((number % m,),), tuple([((1,),) for _ in range(p)]), (1,))


def side_by_side(systems):
    """One system with the starts of all, each one in the places of its own system."""
    m = systems[0].m
    width = sum([one.width for one in systems])
    starts = []
    behind = width
    for system in systems:
        before = (0,) * (width - behind)
        behind = behind - system.width
        starts = starts + [before + start + (0,) * behind for start in system.starts]
    moves = tuple([blocks([one.moves[digit] for one in systems], width)
                   for digit in range(len(systems[0].moves))])
    return System(m, tuple(starts), moves, joined_rows([one.ends for one in systems]))


def blocks(tables, width):
    """The table of this width with these tables one behind the other."""
    rows = []
    behind = width
    for table in tables:
        before = (0,) * (width - behind)
        behind = behind - len(table)
        rows = rows + [before + row + (0,) * behind for row in table]
    return tuple(rows)


def joined_rows(rows):
    """The row of all numbers of these rows."""
    return tuple([number for row in rows for number in row])


def sum_system(signs, systems):
    """A system that tells the sum of the systems, each times its sign or another integer."""
    beside = side_by_side(systems)
    start = [sign * number for sign, system in zip(signs, systems) for number in system.starts[0]]
    return System(beside.m, (rests(start, beside.m),), beside.moves, beside.ends)


def rests(row, m):
    """The row of the rests."""
    return tuple([number % m for number in row])


def crossed(one, other, m):
    """The row of all products of a number of one row and a number of the other one."""
    return tuple([a * b % m for a in one for b in other])


def crossed_tables(table, other, m):
    """The table that leads crossed rows as these two tables lead each of them."""
    return tuple([crossed(one, row, m) for one in table for row in other])


def product_system(one, other):
    """A system that tells the product."""
    m = one.m
    moves = tuple([crossed_tables(table, table2, m)
                   for table, table2 in zip(one.moves, other.moves)])
    return System(m, (crossed(one.starts[0], other.starts[0], m),), moves,
                  crossed(one.ends, other.ends, m))


def zero_table(width):
    """The square table of zeros."""
    return tuple([(0,) * width for _ in range(width)])


def added_tables(tables, width, m):
    """The sum of square tables of this width."""
    total = zero_table(width)
    for table in tables:
        total = tuple([tuple([(a + b) % m for a, b in zip(row, row2)])
                       for row, row2 in zip(total, table)])
    return total


def before_system(one):
    """A system that tells at n the sum of what the steady system one tells below n."""
    # The row of one is led by the digits of some i. It stands in the second half of the
    # places if the digits so far make i less than n, as the highest unlike digit decides.
    m, width = one.m, one.width
    p, _ = prime_power(m)
    moves = []
    for digit in range(p):
        less = added_tables(one.moves[:digit], width, m)
        more = added_tables(one.moves[digit + 1:], width, m)
        less_or_same = added_tables((less, one.moves[digit]), width, m)
        more_or_same = added_tables((more, one.moves[digit]), width, m)
        moves.append(beside_rows(more_or_same, less) + beside_rows(more, less_or_same))
    zeros = (0,) * width
    return System(m, (one.starts[0] + zeros,), tuple(moves), zeros + one.ends)


def beside_rows(table, other):
    """The rows of one table, each with that of the other one behind it."""
    return tuple([row + row2 for row, row2 in zip(table, other)])


def fold_system(one, other):
    """A system that tells the sum of products at all pairs of integers that add up to n."""
    # The digits of the two integers are led at once. The crossed row stands in the second
    # half of the places if their sum so far has a carry.
    m = one.m
    p, _ = prime_power(m)
    width = one.width * other.width
    pairs = [added_tables([crossed_tables(one.moves[digit], other.moves[total - digit], m)
                           for digit in range(p) if 0 <= total - digit < p], width, m)
             for total in range(2 * p - 1)]
    # No two digits add up to more than 2 * p - 2, nor to less than 0.
    pairs.append(zero_table(width))
    moves = [beside_rows(pairs[digit], pairs[digit + p]) + carried_rows(pairs, digit, p)
             for digit in range(p)]
    zeros = (0,) * width
    return System(m, (crossed(one.starts[0], other.starts[0], m) + zeros,), tuple(moves),
                  crossed(one.ends, other.ends, m) + zeros)


def carried_rows(pairs, digit, p):
    """The rows for this digit of n behind a carry; the last one of pairs are zeros."""
    plain = pairs[digit - 1] if digit > 0 else pairs[-1]
    return beside_rows(plain, pairs[digit + p - 1])


def jump_system(one, c, d):
    """A system that tells at n what the steady system one tells at c * n + d."""
    m, width = one.m, one.width
    p, _ = prime_power(m)
    carries = carries_of(c, d, p)
    places = {carry: at for at, carry in enumerate(carries)}
    wide = width * len(carries)
    moves = []
    for digit in range(p):
        rows = []
        for carry in carries:
            left, low = divmod(c * digit + carry, p)
            before = (0,) * (width * places[left])
            behind = (0,) * (wide - width - len(before))
            rows = rows + [before + row + behind for row in one.moves[low]]
        moves.append(tuple(rows))
    turned = packed_tables(turned_tables(one.moves), m)
    ends = joined_rows([column_at(one, turned, digits(carry, p)) for carry in carries])
    # The first carry is d itself.
    start = one.starts[0] + (0,) * (wide - width)
    return System(m, (start,), tuple(moves), ends)


def carries_of(c, d, p):
    """All carries that come when c * n + d is worked out digit by digit, d first."""
    found = [d]
    known = {d: True}
    done = 0
    while done < len(found):
        for digit in range(p):
            left = (c * digit + found[done]) // p
            if left not in known:
                known[left] = True
                found.append(left)
        done = done + 1
    return found


def led_start(one, digit):
    """The system whose start is led by one digit."""
    table = packed_tables((one.moves[digit],), one.m)[0]
    starts = tuple([unpack(led(start, table), one.width, one.m) for start in one.starts])
    return System(one.m, starts, one.moves, one.ends)
