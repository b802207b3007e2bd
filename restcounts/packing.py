"""Rows of rests, packed into one integer each.

A packed row keeps the number at place i in the BITS bits from BITS * i on, so that one
multiplication or addition of integers does it for all places. Numbers are added up as they
are, and the rest is taken where a number is read. As rests are below 27, more than 24,000
products of two rests can be added up before a number outgrows its bits.
"""

BITS = 24
FIELD = 16777215


def pack(row, m):
    """The row packed, with the rest of each number."""
    packed = 0
    for number in reversed(row):
        packed = (packed << BITS) | (number % m)
    return packed


def number_at(packed, place, m):
    """The rest of the number at this place of a packed row."""
    return ((packed >> (BITS * place)) & FIELD) % m


def unpack(packed, width, m):
    """The tuple of the rests of a packed row."""
    return tuple([number_at(packed, place, m) for place in range(width)])
