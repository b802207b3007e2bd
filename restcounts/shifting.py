"""Numbers n and n + q read by one machine at once."""

from restcounts.moduli import digits
from restcounts.states import endless_marks, explored, explored_from, greatest_number, least_flagged


class Shifted:
    """How a machine reads n and n + q, for several q at once.

    A state is the state of the machine at the digits of n so far, the state at as many digits
    of n + q, and what is left to be added above. States that tell the same from here on
    whatever follows are one.
    """

    def __init__(self, machine):
        self.machine = machine

    def lead(self, state, digit):
        """The state behind one digit more of n."""
        here, there, left = state
        left, digit2 = divmod(digit + left, self.machine.p)
        here = self.machine.moves[here][digit]
        there = self.machine.moves[there][digit2]
        return (0, 0, 0) if here == there and left == 0 else (here, there, left)

    def flag(self, state):
        """Whether n and n + q have unlike values if n has no more digits above 0."""
        here, there, left = state
        for digit in digits(left, self.machine.p):
            there = self.machine.moves[there][digit]
        return self.machine.worths[here] != self.machine.worths[there]

    def flags(self, states):
        """The flags of all these states."""
        return [self.flag(state) for state in states]


def least_period(machine, most):
    """The least q up to most so that n and n + q have one value but for finitely many n."""
    shifted = Shifted(machine)
    starts = [(0, 0, q) for q in range(1, most + 1)]
    states, moves = explored_from(starts, shifted.lead, machine.p, None)
    marks = endless_marks(moves, shifted.flags(states))
    fitting = [at + 1 for at in range(most) if not marks[at]]
    return fitting[0] if fitting else None


def greatest_break(machine, q):
    """The greatest n so that n and n + q have unlike values; None if there is none."""
    shifted = Shifted(machine)
    states, moves = explored((0, 0, q), shifted.lead, machine.p, None)
    return greatest_number(moves, shifted.flags(states), True, machine.p)


def least_break(machine, q, low):
    """The least n from low on so that n and n + q have unlike values; None if there is none."""
    shifted = Shifted(machine)
    states, moves = explored((0, 0, q), shifted.lead, machine.p, None)
    return least_flagged(moves, shifted.flags(states), low, machine.p)
