"""Pivots: rows by which lots are made and searched, head by head.

Pivots are a dict from places to packed rows of rests. The row at a place has its head there,
and at its head a power of the prime, its entry; it is kept from its head on, so the entry
fills its lowest bits. Each row of the lot that is 0 up to some place is a sum of multiples of
the pivots behind this place. So a row of the lot loses its number at one place after the other
when the right multiple of the pivot there is taken off it.
"""

from math import gcd

from restcounts.packing import BITS, FIELD, number_at, pack, unpack


def pivots_of(rows, width, m):
    """Pivots of the lot that is made by these rows."""
    pivots = {}
    # From behind, as rows in the order of their heads then become pivots at once.
    for row in reversed(rows):
        put_row(pivots, pack(row, m), width, m)
    return pivots


def put_row(pivots, packed, width, m):
    """Change the pivots into those of the lot that has this packed row, too.

    Tell whether the lot has grown by this.
    """
    grown = False
    for place in range(width):
        if packed == 0:
            break
        here = (packed & FIELD) % m
        if here != 0:
            # A place without a pivot is like one with a row of zeros and the entry m: then the
            # multiple of the new pivot that is 0 at its head goes on to the places behind.
            pivot = pivots.get(place, 0)
            entry = (pivot & FIELD) or m
            if here % entry != 0:
                grown = True
                pivots[place] = headed(packed, width - place, m)
                packed, here = pivot, entry
                pivot = pivots[place]
                entry = pivot & FIELD
            packed = packed + (m - here // entry) * pivot
        packed = packed >> BITS
    return grown


def headed(packed, width, m):
    """The packed row times a unit with which its first number is a power of the prime."""
    here = number_at(packed, 0, m)
    entry = gcd(here, m)
    units = [unit for unit in range(1, m) if unit * here % m == entry]
    return pack([units[0] * number for number in unpack(packed, width, m)], m)


def entry_of(pivot):
    """The entry of a pivot."""
    return pivot & FIELD


def left_over(pivots, packed, m):
    """What is left of a packed row: at each pivot's head a lower rest than the entry there."""
    for place in sorted(pivots):
        pivot = pivots[place]
        times = number_at(packed, place, m) // (pivot & FIELD)
        if times != 0:
            packed = packed + (((m - times) * pivot) << (BITS * place))
    return packed


def in_form(pivots, width, m):
    """The pivots of the same lot whose rows are its form."""
    formed = {}
    for place in sorted(pivots, reverse=True):
        packed = left_over(formed, pivots[place] << (BITS * place), m)
        formed[place] = pack(unpack(packed, width, m)[place:], m)
    return formed


def rows_of(pivots, width, m):
    """The rows of the pivots in the order of their heads."""
    return rows_behind(pivots, 0, width, m)


def rows_behind(pivots, places, width, m):
    """The pivots that are 0 at the first so many places, as rows without these places."""
    return tuple([(0,) * (place - places) + unpack(pivots[place], width - place, m)
                  for place in sorted(pivots) if place >= places])


def size_of(pivots, m):
    """How many rows the lot has."""
    size = 1
    for place in pivots:
        size = size * (m // entry_of(pivots[place]))
    return size


def marked(rows):
    """The rows, each with a 1 behind it at its own number and zeros beside it."""
    many = len(rows)
    return [tuple(row) + (0,) * at + (1,) + (0,) * (many - 1 - at) for at, row in enumerate(rows)]


def solved(rows, row, width, m):
    """Rests by which the sum of multiples of rows is row modulo m; None if there are none."""
    wide = width + len(rows)
    pivots = pivots_of(marked(rows), wide, m)
    rest = unpack(left_over(pivots, pack(row, m), m), wide, m)
    if any(rest[:width]):
        return None
    return tuple([-number % m for number in rest[width:]])
