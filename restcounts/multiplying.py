"""Products and powers of sums of powers, which are told by their terms ((i, j, h), number)."""

from heapq import heappop, heappush

from restcounts.arithmetic import common_divisor, power_of
from restcounts.slots import Slots

# So many pairs of terms are multiplied one by one in a short time.
FEW_PAIRS = 20000
# With more terms than this, or an exponent up to this, products of squares take less time than
# one number at a time.
FEW_TERMS = 500
LOW_EXPONENT = 3
ONE = (((0, 0, 0), 1),)
LETTERS = (0, 1, 2)


def product_terms(one, other):
    """Terms of the product; one power may stand in several of them."""
    pairs = len(one) * len(other)
    if pairs > FEW_PAIRS:
        grid = Grid(one, other)
        if grid.volume <= pairs:
            return grid.terms_of_product(one, other)
    numbers = {}
    for (i, j, h), number in one:
        for (i2, j2, h2), factor in other:
            power = (i + i2, j + j2, h + h2)
            before = numbers[power] if power in numbers else 0
            numbers[power] = before + number * factor
    return [(power, numbers[power]) for power in numbers]


def least_exponents(terms):
    """The least exponent of each letter."""
    return [min([power[at] for power, _ in terms]) for at in LETTERS]


def greatest_exponents(terms):
    """The greatest exponent of each letter."""
    return [max([power[at] for power, _ in terms]) for at in LETTERS]


class Grid:
    """The box of all powers that a product of two sums may have, one slot for each power.

    A sum is told by one integer, so that a single product of integers multiplies two sums.
    """

    def __init__(self, one, other):
        low, low2 = least_exponents(one), least_exponents(other)
        high, high2 = greatest_exponents(one), greatest_exponents(other)
        self.steps = [grain(one, low, other, low2, at) for at in LETTERS]
        self.sizes = [(high[at] + high2[at] - low[at] - low2[at]) // self.steps[at] + 1
                      for at in LETTERS]
        self.volume = self.sizes[0] * self.sizes[1] * self.sizes[2]

    def terms_of_product(self, one, other):
        """The terms of the product."""
        low, low2 = least_exponents(one), least_exponents(other)
        slots = Slots(greatest_size(one) * greatest_size(other) * min(len(one), len(other)))
        packed = slots.packed(self.row_of(one, low)) * slots.packed(self.row_of(other, low2))
        numbers = slots.unpacked(packed, self.volume)
        lowest = [low[at] + low2[at] for at in LETTERS]
        return [(self.power_at(slot, lowest), number) for slot, number in enumerate(numbers)
                if number != 0]

    def row_of(self, terms, low):
        """The numbers in their slots, the powers divided by that of the exponents low."""
        row = [0 for _ in range(self.slot_of(greatest_exponents(terms), low) + 1)]
        for power, number in terms:
            row[self.slot_of(power, low)] = number
        return row

    def slot_of(self, power, low):
        """The slot of a power divided by that of the exponents low."""
        i, j, h = [(power[at] - low[at]) // self.steps[at] for at in LETTERS]
        return (i * self.sizes[1] + j) * self.sizes[2] + h

    def power_at(self, slot, low):
        """The power of a slot, times that of the exponents low."""
        rest, h = divmod(slot, self.sizes[2])
        i, j = divmod(rest, self.sizes[1])
        return tuple([low[at] + self.steps[at] * steps for at, steps in enumerate((i, j, h))])


def grain(one, low, other, low2, at):
    """What divides all differences of exponents of one letter, from 1 on."""
    gaps = [power[at] - low[at] for power, _ in one]
    gaps2 = [power[at] - low2[at] for power, _ in other]
    return common_divisor(gaps + gaps2) or 1


def greatest_size(terms):
    """The greatest size of a number."""
    return max([abs(number) for _, number in terms])


def raised_terms(terms, n):
    """The terms of the sum to the power n, for n from 1 on; terms are in ascending order."""
    if not terms:
        return []
    if len(terms) > FEW_TERMS or n <= LOW_EXPONENT:
        return squared_terms(terms, n)
    lowest, number = terms[0]
    line = Line(terms, lowest, n)
    steps = [(line.key_of(power), factor) for power, factor in terms[1:]]
    found = raised_keys(number, steps, n)
    return [(line.power_at(key), found[key]) for key in found]


def squared_terms(terms, n):
    """The terms of the sum to the power n, by products of squares of squares."""
    found = ONE
    square = terms
    while True:
        if n & 1 == 1:
            found = product_terms(found, square)
        n = n >> 1
        if n == 0:
            return found
        square = product_terms(square, square)


def raised_keys(number, steps, n):
    """The dict from keys to numbers of the sum to the power n.

    The sum is told by the number at the key 0 and by steps, pairs of a key above 0 and a
    number. Let D multiply the number at each key by the key. For Q, the sum P to the power n,
    P * D(Q) = n * D(P) * Q; this tells the numbers of Q one after the other.
    """
    sums = {}
    found = {0: power_of(number, n)}
    queue = []
    heappush(queue, 0)
    while queue:
        key = heappop(queue)
        if key != 0:
            found[key] = sums[key] // (number * key)
        here = found[key]
        if here == 0:
            continue
        for step, factor in steps:
            if key + step not in sums:
                sums[key + step] = 0
                heappush(queue, key + step)
            sums[key + step] = sums[key + step] + (n * step - key) * factor * here
    return found


class Line:
    """Keys of powers: integers for the exponents by which they differ from the lowest one."""

    def __init__(self, terms, lowest, n):
        low, high = least_exponents(terms), greatest_exponents(terms)
        self.lowest = lowest
        self.n = n
        # Between two powers of the result no exponent differs by more than this.
        self.span_y = n * (high[1] - low[1])
        self.span_z = n * (high[2] - low[2])

    def key_of(self, power):
        """The key, above 0 for each power behind the lowest one."""
        i, j, h = [power[at] - self.lowest[at] for at in LETTERS]
        return (i * (2 * self.span_y + 1) + j) * (2 * self.span_z + 1) + h

    def power_at(self, key):
        """The power whose key as a step from n times the lowest one is this."""
        rest, h = divmod(key + self.span_z, 2 * self.span_z + 1)
        i, j = divmod(rest + self.span_y, 2 * self.span_y + 1)
        steps = (i, j - self.span_y, h - self.span_z)
        return tuple([self.n * self.lowest[at] + steps[at] for at in LETTERS])
