"""Integers: powers of them, and their figures however many there are."""

from math import gcd

# Python itself does not read or write the figures of very long integers at once.
FIGURES = 60
PIECE = 10 ** 60


def power_of(base, exponent):
    """The base to the power of an exponent from 0 on."""
    found = 1
    for _ in range(exponent):
        found = found * base
    return found


def figures_of(number):
    """The figures of an integer from 0 on."""
    pieces = []
    while number >= PIECE:
        number, piece = divmod(number, PIECE)
        pieces.append(str(piece).zfill(FIGURES))
    pieces.append(str(number))
    return "".join(list(reversed(pieces)))


def number_with(figures):
    """The integer from 0 on that these figures tell."""
    number = 0
    for place in range(0, len(figures), FIGURES):
        piece = figures[place:place + FIGURES]
        number = number * power_of(10, len(piece)) + int(piece)
    return number


def common_divisor(numbers):
    """The greatest common divisor of integers; 0 if all of them are 0."""
    found = 0
    for number in numbers:
        found = gcd(found, number)
    return found
