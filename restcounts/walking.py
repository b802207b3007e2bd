"""Systems for walks: what P to the power n, times F, has as its constant part.

Let m = p^k. The first k - 1 digits of n tell the rest i of n and lead F to P^i * F, by one
factor P^(d * p^j) for each digit d at the place j. Behind them R = P^(p^(k - 1)) is raised to
what is left of n, and a digit d leads F to R^d * F, of which only those powers are kept whose
exponents p divides, with these exponents divided by p. All this is linear in F, so a row has
one place for each power that F may have, apart for each of the first places of digits.
"""

from restcounts.moduli import prime_power
from restcounts.powers import NO_LETTER, Powers
from restcounts.systems import System


def walk_system(steps, sums, m):
    """A system whose starts tell the rests of the constant parts of steps^n times each sum."""
    layers = layers_of(steps, m)
    places = {}
    states = []
    for power in powers_in(sums):
        places[(0, power)] = len(states)
        states.append((0, power))
    lines = []
    # States are added while those that stand there are worked off.
    while len(lines) < len(states):
        level, power = states[len(lines)]
        led = [layers[level].led(power, digit) for digit in range(len(layers[level].factors))]
        for terms in led:
            for state, _ in terms:
                if state not in places:
                    places[state] = len(states)
                    states.append(state)
        lines.append(led)
    width = len(states)
    moves = tuple([tuple([spread(line[digit], places, width) for line in lines])
                   for digit in range(prime_power(m)[0])])
    starts = tuple([spread(first_states(one, m), places, width) for one in sums])
    ends = tuple([1 if power == NO_LETTER else 0 for _, power in states])
    return System(m, starts, moves, ends)


def powers_in(sums):
    """All powers that stand in some of the sums, ascending."""
    found = {}
    for one in sums:
        for power, _ in one.terms:
            found[power] = True
    return sorted(list(found))


def first_states(one, m):
    """The states with which a sum begins, with the rests of their numbers."""
    return [((0, power), number % m) for power, number in one.terms]


def spread(terms, places, width):
    """The row with these numbers at the places of their states."""
    row = [0 for _ in range(width)]
    for state, number in terms:
        row[places[state]] = number
    return tuple(row)


def layers_of(steps, m):
    """One layer for each of the first k - 1 places of digits, and the last one for all others."""
    p, k = prime_power(m)
    base = steps.modulo(m)
    layers = []
    for level in range(k):
        factors = [Powers([(NO_LETTER, 1)])]
        for _ in range(p - 1):
            factors.append((factors[-1] * base).modulo(m))
        layers.append(Layer(level, level == k - 1, factors, p))
        base = (factors[-1] * base).modulo(m)
    return layers


class Layer:
    """How powers are led by the digits at one place, or at all places behind the first ones."""

    def __init__(self, level, is_last, factors, p):
        self.factors = factors
        self._next = level if is_last else level + 1
        self._divisor = p if is_last else 1
        self._groups = [grouped(factor.terms, self._divisor) for factor in factors]

    def led(self, power, digit):
        """The terms (state, number) to which this digit leads a power."""
        p = self._divisor
        i, j, h = power
        group = self._groups[digit].get((-i % p, -j % p, -h % p), ())
        return [((self._next, ((i + i2) // p, (j + j2) // p, (h + h2) // p)), number)
                for (i2, j2, h2), number in group]


def grouped(terms, p):
    """The terms, by the rests of their exponents modulo p."""
    groups = {}
    for power, number in terms:
        i, j, h = power
        groups.setdefault((i % p, j % p, h % p), []).append((power, number))
    return groups
