"""Moduli and digits."""

from restcounts.errors import BadNumber, BadRow
from restcounts.kinds import is_integer, is_integers

PRIMES = (2, 3, 5, 7)

PRIME_POWERS = {
    2: (2, 1), 4: (2, 2), 8: (2, 3), 16: (2, 4),
    3: (3, 1), 9: (3, 2), 27: (3, 3),
    5: (5, 1), 25: (5, 2),
    7: (7, 1),
}


def prime_power(m):
    """The tuple (p, k) with p to the power k = m, of a modulus m."""
    if not is_integer(m) or m not in PRIME_POWERS:
        raise BadNumber("modulus", m)
    return PRIME_POWERS[m]


def check_prime(p):
    """Raise BadNumber unless p is the prime of some modulus."""
    if not is_integer(p) or p not in PRIMES:
        raise BadNumber("p", p)


def digits(n, p):
    """The digits of n to the base p, the low one first."""
    if not is_integer(n) or n < 0:
        raise BadNumber("n", n)
    check_prime(p)
    found = []
    while n > 0:
        n, digit = divmod(n, p)
        found.append(digit)
    return tuple(found)


def number_of(row, p):
    """The integer that a word of digits tells, the low digit first."""
    check_prime(p)
    if not is_integers(row) or not all([0 <= digit < p for digit in row]):
        raise BadRow(row)
    number = 0
    for digit in reversed(row):
        number = number * p + digit
    return number
