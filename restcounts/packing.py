"""Rows of rests, packed into one integer each.

A packed row keeps the number at place i in the BITS bits from BITS * i on, so that one
multiplication or addition of integers does it for all places. Numbers are added up as they
are, and the rest is taken where a number is read. As rests are below 27, more than 24,000
products of two rests can be added up before a number outgrows its bits.
"""

BITS = 24
FIELD = 16777215

# Wide rows are taken apart in pieces of 32 numbers.
PIECE = 768
PIECE_MASK = (1 << 768) - 1


# All rests, as the six hexadecimal figures that fill their bits.
FIGURES = (
    "000000", "000001", "000002", "000003", "000004", "000005", "000006", "000007", "000008",
    "000009", "00000a", "00000b", "00000c", "00000d", "00000e", "00000f", "000010", "000011",
    "000012", "000013", "000014", "000015", "000016", "000017", "000018", "000019", "00001a")


def pack(row, m):
    """The row packed, with the rest of each number."""
    if not row:
        return 0
    # By way of a text, as this takes less time with wide rows.
    return int("".join([FIGURES[number % m] for number in reversed(row)]), 16)


def number_at(packed, place, m):
    """The rest of the number at this place of a packed row."""
    return ((packed >> (BITS * place)) & FIELD) % m


def unpack(packed, width, m):
    """The tuple of the rests of a packed row."""
    pieces = [(packed >> at) & PIECE_MASK for at in range(0, BITS * width, PIECE)]
    numbers = [((piece >> at) & FIELD) % m for piece in pieces for at in range(0, PIECE, BITS)]
    return tuple(numbers[:width])
