"""Numbers n and n + q read by one machine at once.

A state of such reading is the state of the machine at the digits of n so far, the state at as
many digits of n + q, and what is left to be added above.
"""

from restcounts.moduli import digits
from restcounts.states import endless_marks, explored_from, greatest_number, least_flagged


def shifted_states(machine, shifts):
    """Moves and flags of the states from which n and n + q are read, for all these q at once.

    The first states are those that stand ahead of all digits, one for each q. The flag of a
    state tells whether n and n + q have unlike values if n has no more digits above 0.
    """
    def lead(state, digit):
        return led_on(machine, state, digit)

    starts = [(0, 0, q) for q in shifts]
    states, moves = explored_from(starts, lead, machine.p, None)
    return moves, [is_unlike(machine, state) for state in states]


def led_on(machine, state, digit):
    """The state behind one digit more of n."""
    here, there, left = state
    left, digit2 = divmod(digit + left, machine.p)
    here = machine.moves[here][digit]
    there = machine.moves[there][digit2]
    # States that tell the same from here on whatever follows are one.
    return (0, 0, 0) if here == there and left == 0 else (here, there, left)


def is_unlike(machine, state):
    """Whether n and n + q have unlike values if n has no more digits above 0."""
    here, there, left = state
    for digit in digits(left, machine.p):
        there = machine.moves[there][digit]
    return machine.worths[here] != machine.worths[there]


def least_period(machine, most):
    """The least q up to most so that n and n + q have one value but for finitely many n."""
    moves, flags = shifted_states(machine, list(range(1, most + 1)))
    marks = endless_marks(moves, flags)
    fitting = [at + 1 for at in range(most) if not marks[at]]
    return fitting[0] if fitting else None


def greatest_break(machine, q):
    """The greatest n so that n and n + q have unlike values; None if there is none."""
    moves, flags = shifted_states(machine, [q])
    return greatest_number(moves, flags, True, machine.p)


def least_break(machine, q, low):
    """The least n from low on so that n and n + q have unlike values; None if there is none."""
    moves, flags = shifted_states(machine, [q])
    return least_flagged(moves, flags, low, machine.p)
