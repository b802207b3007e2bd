"""Whether counts are equal modulo m for all n, and where they are not for the first time."""

from restcounts.combining import sum_system
from restcounts.errors import BadNumber
from restcounts.kinds import is_integer, is_row
from restcounts.moduli import prime_power
from restcounts.packing import pack, unpack
from restcounts.pivots import left_over, pivots_of
from restcounts.searching import NEAR, least_number, near_number
from restcounts.systems import (
    closed, dot, least_makers, least_system, led, packed_tables)
from restcounts.tables import check_moduli, system_of, tables_of


class Alike:
    """Tables that tell two counts, and a paper that they are alike."""

    def __init__(self, one, other, rows):
        self.one = one
        self.other = other
        self.rows = tuple([tuple(row) for row in rows])


class Apart:
    """The least n at which the rests of two counts are unlike, and these two rests."""

    def __init__(self, n, rests):
        self.n = n
        self.rests = tuple(rests)


def alike(one, other, m):
    """Alike if two counts have equal rests for all n, otherwise Apart."""
    prime_power(m)
    tables = tables_of(one, m)
    tables2 = tables_of(other, m)
    rows = same_tables(tables, tables2)
    if rows is not None:
        return Alike(tables, tables2, rows)
    n = first_apart(tables, tables2, 0)
    return Apart(n, (tables.at(n), tables2.at(n)))


def same_tables(one, other):
    """A paper that the values of two Tables are equal at all words, or None."""
    check_moduli(one, other)
    system = joint_system(one, other)
    m, width = system.m, system.width
    pivots = closed(system.starts, packed_tables(system.moves, m), width, m)
    rows = least_makers(pivots, width, m)
    if any([dot(row, system.ends) % m != 0 for row in rows]):
        return None
    return rows


def joint_system(one, other):
    """The system whose start is the first joint row, and whose ends tell the worth."""
    return sum_system((1, -1), (system_of(one), system_of(other)))


def is_paper(one, other, rows):
    """Whether any value is a paper that the two Tables are alike."""
    check_moduli(one, other)
    system = joint_system(one, other)
    m, width = system.m, system.width
    if not isinstance(rows, tuple) or not all([is_joint_row(row, width) for row in rows]):
        return False
    if any([dot(row, system.ends) % m != 0 for row in rows]):
        return False
    tables = packed_tables(system.moves, m)
    wanted = [pack(system.starts[0], m)]
    for row in rows:
        rests = [number % m for number in row]
        wanted = wanted + [led(rests, table) for table in tables]
    pivots = pivots_of(rows, width, m)
    return not any([any(unpack(left_over(pivots, packed, m), width, m)) for packed in wanted])


def is_joint_row(row, width):
    """Whether any value is a tuple of so many integers."""
    return isinstance(row, tuple) and is_row(row, width)


def first_apart(one, other, low):
    """The least n from low on at which the values of two steady Tables are unlike, or None."""
    check_moduli(one, other)
    if not is_integer(low) or low < 0:
        raise BadNumber("low", low)
    system = joint_system(one, other)
    # Most differences come soon, and likeness is seen at once; the search takes longer.
    near = near_number(system, low)
    if near is not None or same_tables(one, other) is not None:
        return near
    return least_number(least_system(system), low + NEAR)
