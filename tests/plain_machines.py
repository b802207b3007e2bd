"""Machines by chance, for tests."""

import random

from restcounts.machines import Machine


def random_machine(chance, p, many):
    """A machine with so many states, in which a digit 0 above the highest one changes nothing."""
    values = [chance.randrange(3) for _ in range(many)]
    groups = {}
    for state, value in enumerate(values):
        groups.setdefault(value, []).append(state)
    zeros = [state if chance.random() < 0.5 else chance.choice(groups[values[state]]) for state in range(many)]
    ahead = chance.random() < 0.4
    moves = []
    for state in range(many):
        # Some machines go ahead most of the time, so that values come only a few times.
        least = min(state + 1, many - 1) if ahead else 0
        moves.append([zeros[state]] + [chance.randrange(least, many) for _ in range(p - 1)])
        if ahead:
            higher = [other for other in groups[values[state]] if other >= state]
            moves[-1][0] = chance.choice(higher)
    return Machine(p, moves, values)


def random_machines(seed, many, most=7):
    chance = random.Random(seed)
    for _ in range(many):
        yield chance, random_machine(chance, chance.choice((2, 3, 5, 7)), chance.randrange(1, most + 1))
