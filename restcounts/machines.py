"""Machines that read the digits of numbers, the low one first."""

from restcounts.errors import BadNumber, BadRow, TooMany, Unlike
from restcounts.kinds import is_integer, is_row
from restcounts.moduli import check_prime, digits, prime_power
from restcounts.packing import unpack
from restcounts.states import (
    explored, greatest_number, is_endless, least_number_of, least_numbers, least_states, met_states)
from restcounts.systems import dot, led, packed_tables
from restcounts.telling import exact_system_of_tree

MOST_STATES = 60


class Machine:
    """States, to which of them each one goes at each digit, and the value of each."""

    def __init__(self, p, moves, worths):
        check_machine(p, moves, worths)
        self.p = p
        self.moves = tuple([tuple(row) for row in moves])
        self.worths = tuple(worths)
        self.size = len(self.moves)

    def __eq__(self, other):
        return (isinstance(other, Machine) and self.p == other.p and self.moves == other.moves
                and self.worths == other.worths)

    def at(self, n):
        """What the machine tells for n."""
        if not is_integer(n) or n < 0:
            raise BadNumber("n", n)
        state = 0
        for digit in digits(n, self.p):
            state = self.moves[state][digit]
        return self.worths[state]


def check_machine(p, moves, worths):
    """Raise the errors of Machine(p, moves, worths)."""
    check_prime(p)
    if not moves:
        raise BadNumber("states", 0)
    many = len(moves)
    for row in moves:
        if not is_row(row, p) or not all([0 <= state < many for state in row]):
            raise BadRow(row)
    if not is_row(worths, many):
        raise BadRow(worths)
    if any([worth != worths[row[0]] for worth, row in zip(worths, moves)]):
        raise Unlike("zeros")


def check_bases(machine, other):
    """Raise Unlike unless both machines have the same base."""
    if machine.p != other.p:
        raise Unlike("p")


def least_machine(machine):
    """The machine with the fewest states that tells the same, its states as they are met."""
    return least_made(machine.p, machine.moves, machine.worths)


def least_made(p, moves, worths):
    """The least machine of these moves and worths."""
    rows, values = met_states(moves, worths)
    least, told = least_states(rows, values)
    return Machine(p, least, told)


def machine_of(count, m):
    """The least machine that tells the rests of the count."""
    p, _ = prime_power(m)
    system = exact_system_of_tree(count.tree, m)
    tables = packed_tables(system.moves, m)

    def lead(row, digit):
        return unpack(led(row, tables[digit]), system.width, m)

    # Two rows of an exact system are the same if they tell the same.
    found = explored(system.starts[0], lead, p, MOST_STATES)
    if found is None:
        raise TooMany("states", MOST_STATES)
    rows, moves = found
    return Machine(p, moves, [dot(row, system.ends) % m for row in rows])


def pairs_of_states(machine, other):
    """The pairs of states that both machines meet at once, and the rows of their moves."""
    def lead(pair, digit):
        return (machine.moves[pair[0]][digit], other.moves[pair[1]][digit])

    return explored((0, 0), lead, machine.p, None)


def paired(machine, other):
    """The least machine that tells both values at once, by the index of their pair."""
    check_bases(machine, other)
    # Pairs of states of least machines do not tell the same unless they are the same.
    one, two = least_machine(machine), least_machine(other)
    states, moves = pairs_of_states(one, two)
    told = [(one.worths[state], two.worths[state2]) for state, state2 in states]
    pairs = tuple(sorted(list({pair: True for pair in told})))
    places = {pair: at for at, pair in enumerate(pairs)}
    return Machine(machine.p, moves, [places[pair] for pair in told]), pairs


def first_unlike(machine, other):
    """The least n for which two machines tell different values; None if there is none."""
    check_bases(machine, other)
    states, moves = pairs_of_states(machine, other)
    unlike = [machine.worths[state] != other.worths[state2] for state, state2 in states]
    return least_number_of(moves, unlike, True, machine.p)


def mapped(machine, numbers):
    """The least machine that tells numbers[v] where the machine tells v."""
    moves, worths = met_states(machine.moves, machine.worths)
    for value in sorted(worths):
        if value not in numbers:
            raise BadNumber("value", value)
    return least_made(machine.p, moves, [numbers[value] for value in worths])


def comes(machine):
    """For each value that the machine tells the pair of it and of the least n for it."""
    numbers = least_numbers(machine.moves, machine.p)
    found = {}
    for state, number in numbers.items():
        value = machine.worths[state]
        found[value] = min(number, found.get(value, number))
    return tuple(sorted([(value, found[value]) for value in found]))


def comes_again(machine, value):
    """Whether the machine tells the value for infinitely many n."""
    moves, worths = met_states(machine.moves, machine.worths)
    return is_endless(moves, worths, value)


def last(machine, value):
    """The greatest n for which the machine tells the value; None if there is no greatest one."""
    moves, worths = met_states(machine.moves, machine.worths)
    if is_endless(moves, worths, value):
        return None
    return greatest_number(moves, worths, value, machine.p)
