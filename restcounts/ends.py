"""All ends of walks at once, and words of digits turned about."""

from restcounts.combining import side_by_side, sum_system
from restcounts.errors import BadRow, TooMany, Unlike
from restcounts.kinds import is_row
from restcounts.likeness import same_tables
from restcounts.moduli import prime_power
from restcounts.pivots import solved
from restcounts.powers import Powers
from restcounts.relating import annihilator, lot_of_values
from restcounts.searching import least_number, least_word, short_word
from restcounts.systems import (
    System, first_rests_of, least_system, shortened, turned_tables)
from restcounts.tables import Tables, system_of
from restcounts.telling import system_of_tree
from restcounts.walking import walk_system

MOST_POWERS = 400


def check_box(low, high):
    """Raise the errors about the corners of a box."""
    for corner in (low, high):
        if not is_row(corner, 3):
            raise BadRow(corner)
    many = 1
    for least, most in zip(low, high):
        if least > most:
            raise Unlike("corners")
        many = many * (most - least + 1)
    if many > MOST_POWERS:
        raise TooMany("powers", MOST_POWERS)


def powers_of_box(low, high):
    """The exponents of all powers of the box, ascending."""
    return [(i, j, h) for i in range(low[0], high[0] + 1) for j in range(low[1], high[1] + 1)
            for h in range(low[2], high[2] + 1)]


def box_system(steps, powers, m):
    """A shortened system with a start for each power, about the walks with this end."""
    sums = [Powers([(power, 1)]) for power in powers]
    return shortened(walk_system(steps, sums, m))


def end_relations(steps, low, high, m):
    """The Lot of the rows of numbers with which the ends of a box always make the rest 0."""
    prime_power(m)
    check_box(low, high)
    return annihilator(lot_of_values(box_system(steps, powers_of_box(low, high), m)))


def ends_for(steps, low, high, count, m):
    """A row of numbers with which the ends of a box tell the count, or None."""
    prime_power(m)
    check_box(low, high)
    ended = box_system(steps, powers_of_box(low, high), m)
    both = shortened(side_by_side([ended, system_of_tree(count.tree, m)]))
    return solved(both.starts[:-1], both.starts[-1], both.width, m)


def alike_ends(one, other, low, high, m):
    """None if two walks have equal rests at all ends of a box; else the first n and end."""
    prime_power(m)
    check_box(low, high)
    powers = powers_of_box(low, high)
    system = box_system(one, powers, m)
    system2 = box_system(other, powers, m)
    both = side_by_side([system, system2])
    starts = tuple([start + tuple([-number % m for number in start2])
                    for start, start2 in zip(system.starts, system2.starts)])
    apart = shortened(System(m, starts, both.moves, both.ends))
    n = least_number(apart, 0)
    if n is None:
        return None
    unlike = [power for power, rests in zip(powers, first_rests_of(apart, (n,))) if rests[0] != 0]
    return (n, unlike[0])


def turned(tables):
    """Tables whose value at each word is that of the given ones at this word from behind."""
    return Tables(tables.m, tables.ends, turned_tables(tables.moves), tables.first)


def symmetric(tables):
    """None if words and these from behind have equal values; else the first word where not."""
    behind = turned(tables)
    apart = sum_system((1, -1), (system_of(tables), system_of(behind)))
    # Most differences come soon, and likeness is seen at once; the search takes longer.
    word = short_word(apart)
    if word is not None or same_tables(tables, behind) is not None:
        return word
    # With each word the same word from behind has unlike values, and least_word looks at the
    # last digits first.
    return tuple(list(reversed(least_word(least_system(apart)))))
