"""How many numbers have the values that a machine tells, which, and how often."""

from restcounts.errors import BadNumber, TooLarge, TooMany
from restcounts.kinds import is_integer
from restcounts.limits import limits_at, rings_of, ways_on
from restcounts.machines import check_bases, least_machine
from restcounts.moduli import digits, number_of
from restcounts.shifting import greatest_break, least_break, least_period
from restcounts.solving import shortest_rule
from restcounts.systems import dot

MOST_BELOW = 10 ** 60
MOST_PERIOD = 60


class Shares:
    """Behind how many digits the limits of shares come again, and all of them up to there."""

    def __init__(self, period, limits):
        self.period = period
        self.limits = tuple([tuple([(value, tuple(limit)) for value, limit in pairs])
                             for pairs in limits])


class Period:
    """From where on, and after how many numbers, values come again."""

    def __init__(self, start, length):
        self.start = start
        self.length = length


def check_from(what, number, least):
    """Raise BadNumber for what is no integer from least on."""
    if not is_integer(number) or number < least:
        raise BadNumber(what, number)


def check_to(what, number, limit):
    """Raise TooLarge for what is above the limit."""
    if number > limit:
        raise TooLarge(what, number, limit)


def how_many(machine, value, below):
    """How many numbers below this one have the value."""
    check_from("below", below, 0)
    check_to("below", below, MOST_BELOW)
    word = digits(below, machine.p)
    ways = ways_by_digits(machine, len(word))
    marks = marks_of(machine, value)
    total = 0
    # Lower numbers have a lower digit at some place, and the same ones above it.
    for place in reversed(range(len(word))):
        for digit in range(word[place]):
            total = total + dot(ways[place], marks_behind(machine, marks, digit))
        marks = marks_behind(machine, marks, word[place])
    return total


def ways_by_digits(machine, many):
    """For each number of digits below many the number of words that lead to each state."""
    ways = [1] + [0] * (machine.size - 1)
    found = []
    for _ in range(many):
        found.append(ways)
        ways = ways_on(machine.moves, ways)
    return found


def marks_of(machine, value):
    """1 for each state with the value, 0 for the others."""
    return [1 if worth == value else 0 for worth in machine.worths]


def marks_behind(machine, marks, digit):
    """For each state the mark of the one to which this digit leads it."""
    return [marks[row[digit]] for row in machine.moves]


def nth(machine, value, number):
    """The n that is this one of those with the value, in ascending order; None if it is too far."""
    check_from("number", number, 1)
    if how_many(machine, value, MOST_BELOW) < number:
        return None
    ways = ways_by_digits(machine, len(digits(MOST_BELOW, machine.p)))
    marks = marks_of(machine, value)
    word = []
    for row in reversed(ways):
        digit = 0
        many = dot(row, marks_behind(machine, marks, digit))
        while many < number:
            number = number - many
            digit = digit + 1
            many = dot(row, marks_behind(machine, marks, digit))
        marks = marks_behind(machine, marks, digit)
        word.append(digit)
    word.reverse()
    return number_of(word, machine.p)


def shares(machine):
    """The Shares of the machine."""
    least = least_machine(machine)
    rings = rings_of(least.moves)
    # The limits are sums of rows that come again behind the rounds of the rings. If such a sum
    # is 0 at as many places as all unlike rounds have together, it is so everywhere.
    places = sum(list({ring.rounds: True for ring in rings}))
    limits = [limits_at(rings, least.worths, step) for step in range(places + MOST_PERIOD)]
    for period in range(1, MOST_PERIOD + 1):
        if all([limits[step] == limits[step + period] for step in range(places)]):
            return Shares(period, limits[:period])
    raise TooMany("period", MOST_PERIOD)


def period_of(machine, most):
    """The least Period of at most this length; None if there is none."""
    check_from("most", most, 1)
    check_to("most", most, MOST_PERIOD)
    least = least_machine(machine)
    length = least_period(least, most)
    if length is None:
        return None
    n = greatest_break(least, length)
    return Period(0 if n is None else n + 1, length)


def breaks_period(machine, length, start):
    """The least n from start on that does not have the value of n + length; None if none."""
    check_from("length", length, 1)
    check_to("length", length, MOST_PERIOD)
    check_from("start", start, 0)
    return least_break(least_machine(machine), length, start)


def numbers_by_digits(machine, value, many):
    """How many n below p^L have the value, for each L below many."""
    marks = marks_of(machine, value)
    return [dot(ways, marks) for ways in ways_by_digits(machine, many)]


def as_many(machine, value, other, other_value):
    """The least L for which not as many n below p^L have the one value as the other; None if none."""
    check_bases(machine, other)
    # Each of the rows goes on by a rule as long as the machine has states.
    many = machine.size + other.size
    one = numbers_by_digits(machine, value, many)
    two = numbers_by_digits(other, other_value, many)
    unlike = [at for at in range(many) if one[at] != two[at]]
    return unlike[0] if unlike else None


def recurrence(machine, value):
    """The shortest rule by which the numbers of n below p^L that have the value go on."""
    least = least_machine(machine)
    return shortest_rule(numbers_by_digits(least, value, 2 * least.size))
