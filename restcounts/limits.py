"""Where those are in the long run who go on from the state 0, each digit as often as any other."""

from math import gcd

from restcounts.solving import lowest, ratio_sum, solved


class Ring:
    """States that lead to one another and to no others.

    All circles of them have multiples of rounds as their length, and steps tells for each state
    how far it is in the round. shares are the parts of the time spent at each of them, and
    begins the parts of those from the state 0 who end here, by the step at which they are when
    a round begins; both in ratios with one bottom.
    """

    def __init__(self, moves, members, passing):
        self.members = members
        self.rounds, self.steps = steps_of(moves, members)
        self.shares, shares_bottom = shares_of(moves, members)
        if 0 in self.steps:
            begins, begins_bottom = [0] * self.rounds, 1
            begins[self.steps[0]] = 1
        else:
            begins, begins_bottom = begins_of(moves, passing, self.rounds, self.steps)
        self.begins = begins
        self.bottom = shares_bottom * begins_bottom


def rings_of(moves):
    """All rings of states; all states must be met."""
    ahead = [met_from(moves, state) for state in range(len(moves))]
    lots = []
    for state, met in enumerate(ahead):
        if state == min(list(met)) and all([state in ahead[further] for further in met]):
            lots.append(sorted(met))
    ringed = {state: True for members in lots for state in members}
    passing = [state for state in range(len(moves)) if state not in ringed]
    return [Ring(moves, members, passing) for members in lots]


def met_from(moves, state):
    """The states to which words of digits lead from a state, itself too, as keys."""
    met = {state: True}
    waiting = [state]
    while waiting:
        for further in moves[waiting.pop()]:
            if further not in met:
                met[further] = True
                waiting.append(further)
    return met


def steps_of(moves, members):
    """The greatest common divisor of all circles, and the step of each state in such a round."""
    found = {members[0]: 0}
    order = [members[0]]
    rounds = 0
    done = 0
    while done < len(order):
        state = order[done]
        done = done + 1
        for further in moves[state]:
            if further not in found:
                found[further] = found[state] + 1
                order.append(further)
            rounds = gcd(rounds, found[state] + 1 - found[further])
    return rounds, {state: found[state] % rounds for state in members}


def shares_of(moves, members):
    """The tops and the bottom of the parts of the time spent at each of these states."""
    # As many come to a state as go on from it; one of these equations follows from the others.
    p = len(moves[0])
    rows = [[1] * len(members)]
    for state in members[1:]:
        rows.append([moves[other].count(state) - (p if other == state else 0) for other in members])
    return solved(rows, [1] + [0] * (len(members) - 1))


def begins_of(moves, passing, rounds, steps):
    """The tops, for each step, and the bottom of the parts that end at a ring at this step."""
    ways = [ways_after(moves, state, rounds) for state in passing]
    total = sum(ways[0])
    # Who passes a state at the beginning of a round came there in a round, or began there.
    rows = [[(total if state == other else 0) - line[state]
             for other, line in zip(passing, ways)] for state in passing]
    often, bottom = solved(rows, [1 if state == 0 else 0 for state in passing])
    tops = [0] * rounds
    for times, line in zip(often, ways):
        for state, step in steps.items():
            tops[step] = tops[step] + times * line[state]
    return tops, bottom


def ways_after(moves, state, many):
    """For each state how many words of so many digits lead to it."""
    ways = [0] * len(moves)
    ways[state] = 1
    for _ in range(many):
        ways = ways_on(moves, ways)
    return ways


def ways_on(moves, ways):
    """For each state how many ways lead to it with one digit more."""
    found = [0] * len(moves)
    for row, many in zip(moves, ways):
        if many != 0:
            for further in row:
                found[further] = found[further] + many
    return found


def limits_at(rings, worths, step):
    """The pairs of each value and of the limit of its share behind step digits, ascending.

    The limits come again behind as many digits as the rounds of all rings have in common.
    """
    found = {value: (0, 1) for value in sorted(worths)}
    for ring in rings:
        for state, share in zip(ring.members, ring.shares):
            begun = ring.begins[(ring.steps[state] - step) % ring.rounds]
            part = lowest(ring.rounds * share * begun, ring.bottom)
            found[worths[state]] = ratio_sum(found[worths[state]], part)
    return tuple([(value, limit) for value, limit in found.items()])
