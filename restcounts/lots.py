"""Lots of rows modulo m."""

from restcounts.errors import BadNumber, BadRow, TooMany, Unlike
from restcounts.kinds import is_integer, is_row
from restcounts.moduli import digits, prime_power
from restcounts.packing import pack, unpack
from restcounts.pivots import (
    in_form, left_over, marked, pivots_of, rows_behind, rows_of, size_of, solved)

WIDEST = 400
MOST_ROWS = 400


class Lot:
    """All sums of multiples of some rows modulo m."""

    def __init__(self, m, width, rows=()):
        check_rows(m, width, rows)
        pivots = in_form(pivots_of(rows, width, m), width, m)
        self.m = m
        self.width = width
        self.rows = rows_of(pivots, width, m)
        self.size = size_of(pivots, m)
        self.least = least_makers(self.rows, self.size, width, m)
        self._pivots = pivots

    def __eq__(self, other):
        return (isinstance(other, Lot) and self.m == other.m and self.width == other.width
                and self.rows == other.rows)

    def __contains__(self, row):
        if not is_row(row, self.width):
            raise BadRow(row)
        rest = left_over(self._pivots, pack(row, self.m), self.m)
        return not any(unpack(rest, self.width, self.m))

    def joined(self, other):
        """The lot made by the rows of both."""
        check_alike(self, other)
        return Lot(self.m, self.width, self.rows + other.rows)

    def common(self, other):
        """The lot of all rows that both have."""
        check_alike(self, other)
        # Each row of self stands twice. Where a row of other takes the first copy away,
        # the second one is a row of both.
        zeros = (0,) * self.width
        doubled = [row + row for row in self.rows] + [row + zeros for row in other.rows]
        wide = 2 * self.width
        pivots = pivots_of(doubled, wide, self.m)
        return Lot(self.m, self.width, rows_behind(pivots, self.width, wide, self.m))


def check_rows(m, width, rows):
    """Raise the errors of Lot(m, width, rows)."""
    prime_power(m)
    if not is_integer(width) or width < 0 or width > WIDEST:
        raise BadNumber("width", width)
    for row in rows:
        if not is_row(row, width):
            raise BadRow(row)


def check_alike(one, other):
    """Raise Unlike where two lots differ in modulus or width."""
    if one.m != other.m:
        raise Unlike("modulus")
    if one.width != other.width:
        raise Unlike("width")


def least_makers(rows, size, width, m):
    """The least number of rows that make the lot of this size that these rows make."""
    # The lot has p to this number times as many rows as the lot of its p-fold rows, and
    # this one has as many as the same rows make modulo m / p.
    p, _ = prime_power(m)
    size_below = size_of(pivots_of(rows, width, m // p), m // p)
    return len(digits(size // size_below, p)) - 1


def kernel(m, width, rows):
    """The Lot of all tuples of numbers by which the sum of multiples of rows is 0."""
    check_rows(m, width, rows)
    check_many(rows)
    pivots = pivots_of(marked(rows), width + len(rows), m)
    return Lot(m, len(rows), rows_behind(pivots, width, width + len(rows), m))


def multiples(m, width, rows, row):
    """Rests by which the sum of multiples of rows is row; None if there are none."""
    check_rows(m, width, rows)
    check_many(rows)
    if not is_row(row, width):
        raise BadRow(row)
    return solved(rows, row, width, m)


def check_many(rows):
    """Raise TooMany if there are more rows than kernel and multiples take."""
    if len(rows) > MOST_ROWS:
        raise TooMany("rows", MOST_ROWS)
