"""Sums of powers in the letters x, y and z, and their texts."""

from restcounts.arithmetic import figures_of, number_with
from restcounts.errors import BadNumber, BadRow, TooLarge
from restcounts.kinds import is_integer, is_row
from restcounts.multiplying import product_terms, raised_terms
from restcounts.scanning import Scanner

LETTERS = ("x", "y", "z")
NO_LETTER = (0, 0, 0)
MOST_RAISED = 200


class Powers:
    """A sum of finitely many powers, each times an integer."""

    def __init__(self, terms):
        for item in terms:
            if not is_term(item):
                raise BadRow(item)
        numbers = {}
        for exponents, number in terms:
            power = tuple(exponents)
            numbers[power] = (numbers[power] if power in numbers else 0) + number
        kept = sorted([power for power in numbers if numbers[power] != 0])
        self.terms = tuple([(power, numbers[power]) for power in kept])
        self.reach = tuple([max([abs(told[at]) for told in kept], default=0)
                            for at in range(3)])
        self._numbers = numbers

    def __add__(self, other):
        added = as_powers(other)
        if added is None:
            return NotImplemented
        return Powers(self.terms + added.terms)

    def __radd__(self, other):
        return self + other

    def __sub__(self, other):
        taken = as_powers(other)
        if taken is None:
            return NotImplemented
        return Powers(self.terms + negated(taken.terms))

    def __rsub__(self, other):
        return -self + other

    def __mul__(self, other):
        factor = as_powers(other)
        if factor is None:
            return NotImplemented
        return Powers(product_terms(self.terms, factor.terms))

    def __rmul__(self, other):
        return self * other

    def __neg__(self):
        return Powers(negated(self.terms))

    def __eq__(self, other):
        if is_integer(other):
            return self.terms == constant_terms(other)
        return isinstance(other, Powers) and self.terms == other.terms

    def raised(self, n):
        """The product of n sums like this one."""
        if not is_integer(n) or n < 0:
            raise BadNumber("n", n)
        if n > MOST_RAISED:
            raise TooLarge("n", n, MOST_RAISED)
        if n == 0:
            return Powers(constant_terms(1))
        return Powers(raised_terms(self.terms, n))

    def constant(self):
        """The number of the power without letters."""
        return self.part_at(NO_LETTER)

    def part_at(self, exponents):
        """The number of the power with these exponents."""
        check_exponents(exponents)
        return self._numbers.get(tuple(exponents), 0)

    def moved(self, exponents):
        """The sum times the power with these exponents."""
        check_exponents(exponents)
        return self * Powers([(exponents, 1)])

    def parts(self, p):
        """The powers of which p divides all exponents, with all exponents divided by p."""
        check_positive("p", p)
        return Powers([((i // p, j // p, h // p), number) for (i, j, h), number in self.terms
                       if i % p == 0 and j % p == 0 and h % p == 0])

    def modulo(self, m):
        """The sum with the rests of its numbers."""
        check_positive("modulus", m)
        return Powers([(power, number % m) for power, number in self.terms])


def is_term(item):
    """Whether item is a pair of three exponents and a number."""
    return (isinstance(item, (tuple, list)) and len(item) == 2 and is_row(item[0], 3)
            and is_integer(item[1]))


def check_exponents(exponents):
    """Raise BadRow unless these are three exponents."""
    if not is_row(exponents, 3):
        raise BadRow(exponents)


def check_positive(what, number):
    """Raise BadNumber unless number is an integer from 1 on."""
    if not is_integer(number) or number < 1:
        raise BadNumber(what, number)


def as_powers(value):
    """The sum that a Powers or an integer stands for; None for any other value."""
    if isinstance(value, Powers):
        return value
    if is_integer(value):
        return Powers(constant_terms(value))
    return None


def constant_terms(number):
    """The terms of the sum that an integer stands for."""
    return ((NO_LETTER, number),) if number != 0 else ()


def negated(terms):
    """The terms with the opposite numbers."""
    return tuple([(power, -number) for power, number in terms])


def powers_of(text):
    """The Powers that a text tells."""
    scanner = Scanner(text)
    powers = read_powers(scanner)
    scanner.end()
    return powers


def read_powers(scanner):
    """Read a sum of powers as far as it goes."""
    terms = [read_term(scanner, -1 if scanner.took("-") else 1)]
    while True:
        if scanner.took("+"):
            terms.append(read_term(scanner, 1))
        elif scanner.took("-"):
            terms.append(read_term(scanner, -1))
        else:
            return Powers(terms)


def read_term(scanner, number):
    """Read a product of numbers and powers of letters; the term that is number times it."""
    exponents = [0, 0, 0]
    while True:
        scanner.skip()
        letter = scanner.here()
        if letter in LETTERS:
            scanner.step_on()
            at = LETTERS.index(letter)
            exponents[at] = exponents[at] + read_exponent(scanner)
        else:
            number = number * number_with(scanner.figures(None))
        if not scanner.took("*"):
            return (tuple(exponents), number)


def read_exponent(scanner):
    """Read what follows a letter: ^ and an exponent, or nothing, which means 1."""
    if not scanner.took("^"):
        return 1
    sign = -1 if scanner.took("-") else 1
    return sign * number_with(scanner.figures(None))


def powers_text(powers):
    """The text that tells a sum of powers."""
    if not powers.terms:
        return "0"
    pieces = []
    for power, number in powers.terms:
        if pieces:
            pieces.append(" - " if number < 0 else " + ")
        elif number < 0:
            pieces.append("-")
        pieces.append(term_text(power, abs(number)))
    return "".join(pieces)


def term_text(power, size):
    """The text of one term, without its sign."""
    factors = []
    for letter, exponent in zip(LETTERS, power):
        if exponent == 1:
            factors.append(letter)
        elif exponent != 0:
            sign = "-" if exponent < 0 else ""
            factors.append(f"{letter}^{sign}{figures_of(abs(exponent))}")
    if size != 1 or not factors:
        factors = [figures_of(size)] + factors
    return "*".join(factors)
