"""States that are met one after the other, and states that tell the same.

Rows of moves have one state for each digit, or for each of so many steps of another kind.
States are numbered from 0 on; the first one is where reading begins.
"""

from restcounts.moduli import digits, number_of


def explored(start, lead, many, most):
    """The states to which steps lead, as they are first met, and the rows of their moves.

    lead tells for a state and a number below many the state to which it goes on. None if there
    are more than most states; most is None if all are wanted, however many.
    """
    return explored_from([start], lead, many, most)


def explored_from(starts, lead, many, most):
    """The same for several unlike states to begin with, which get the first numbers."""
    places = {start: at for at, start in enumerate(starts)}
    states = list(starts)
    moves = []
    # States are added while those that stand there are worked off.
    while len(moves) < len(states):
        state = states[len(moves)]
        row = []
        for step in range(many):
            further = lead(state, step)
            if further not in places:
                places[further] = len(states)
                states.append(further)
            row.append(places[further])
        if most is not None and len(states) > most:
            return None
        moves.append(tuple(row))
    return states, moves


def numbered(keys):
    """For each key the number that it gets when it is first met."""
    numbers = {}
    for key in keys:
        if key not in numbers:
            numbers[key] = len(numbers)
    return [numbers[key] for key in keys]


def classes_of(moves, worths):
    """For each state the number of its class; states of one class tell the same."""
    # Steps with which all states go the same ways part no more states than one of them does.
    columns = list({column: True for column in zip(*moves)})
    classes = numbered(worths)
    many = max(classes) + 1
    while True:
        before = many
        for column in columns:
            classes = numbered([here * many + classes[further]
                                for here, further in zip(classes, column)])
            many = max(classes) + 1
        if many == before:
            return classes


def least_states(moves, worths):
    """Moves and worths of the fewest states that tell the same, numbered as they are met."""
    classes = classes_of(moves, worths)
    members = {}
    for state, number in enumerate(classes):
        members.setdefault(number, state)

    def lead(number, step):
        return classes[moves[members[number]][step]]

    met, rows = explored(classes[0], lead, len(moves[0]), None)
    return rows, [worths[members[number]] for number in met]


def least_numbers(moves, p):
    """For each state that is met the least number of as few digits as can lead to it.

    Zeros may stand at the end of the digits. The states with fewer digits come first.
    """
    found = {0: 0}
    fresh = {0: 0}
    power = 1
    while fresh:
        reached = {}
        for state, number in fresh.items():
            for digit, further in enumerate(moves[state]):
                if further not in found:
                    told = number + digit * power
                    reached[further] = min(told, reached.get(further, told))
        for state, number in reached.items():
            found[state] = number
        fresh = reached
        power = power * p
    return found


def least_number_of(moves, worths, value, p):
    """The least number with this value; None if there is none."""
    # A state that has the value tells the least number with it where it is met first.
    numbers = least_numbers(moves, p)
    return min([numbers[state] for state in numbers if worths[state] == value], default=None)


def early_marks(moves):
    """For each state whether no circle of states leads to it; all states must be met."""
    ways = [0 for _ in moves]
    for row in moves:
        for further in row:
            ways[further] = ways[further] + 1
    # A way that leads back to the state 0 is a circle.
    order = [0] if ways[0] == 0 else []
    done = 0
    while done < len(order):
        for further in moves[order[done]]:
            ways[further] = ways[further] - 1
            if ways[further] == 0:
                order.append(further)
        done = done + 1
    marks = [False for _ in moves]
    for state in order:
        marks[state] = True
    return marks


def is_endless(moves, worths, value):
    """Whether infinitely many numbers have the value; all states must be met."""
    marks = early_marks(moves)
    return any([worths[further] == value for mark, row in zip(marks, moves) if not mark
                for further in row[1:]])


def greatest_number(moves, worths, value, p):
    """The greatest number with the value, which not infinitely many have; None if there is none.

    All states must be met.
    """
    marks = early_marks(moves)
    best = 0 if worths[0] == value else None
    # The greatest number of so many digits that leads to a state.
    level = {0: 0} if marks[0] else {}
    power = 1
    while level:
        reached = {}
        for state, number in level.items():
            for digit, further in enumerate(moves[state]):
                told = number + digit * power
                if digit != 0 and worths[further] == value:
                    best = told if best is None else max(best, told)
                if marks[further]:
                    reached[further] = max(told, reached.get(further, told))
        level = reached
        power = power * p
    return best


def met_states(moves, worths):
    """The moves and worths of the states that are met, numbered as they are met."""
    met, rows = explored(0, going_by(moves), len(moves[0]), None)
    return rows, [worths[state] for state in met]


def going_by(moves):
    """The function that leads states by these moves."""
    def lead(state, step):
        return moves[state][step]
    return lead


def endless_marks(moves, flags):
    """For each state whether flagged states are met behind it at infinitely many numbers.

    The flags are such that a digit 0 above the highest one changes nothing.
    """
    ways_back = [[] for _ in moves]
    for state, row in enumerate(moves):
        for further in row:
            ways_back[further].append(state)
    # First the states behind which flagged ones are met at some number above 0.
    waiting = [state for state, row in enumerate(moves) if any([flags[further] for further in row[1:]])]
    marks = [False for _ in moves]
    for state in waiting:
        marks[state] = True
    while waiting:
        for state in ways_back[waiting.pop()]:
            if not marks[state]:
                marks[state] = True
                waiting.append(state)
    # Among these, only those from which one can go on for ever are kept.
    ways = [len([True for further in row if marks[further]]) for row in moves]
    waiting = [state for state, many in enumerate(ways) if marks[state] and many == 0]
    while waiting:
        gone = waiting.pop()
        marks[gone] = False
        for state in ways_back[gone]:
            ways[state] = ways[state] - 1
            if marks[state] and ways[state] == 0:
                waiting.append(state)
    return marks


def least_flagged(moves, flags, low, p):
    """The least number from low on that leads to a flagged state; None if there is none.

    The flags are such that a digit 0 above the highest one changes nothing.
    """
    word = digits(low, p)
    # columns[at] are the flags of the states to which the digits of low from at on lead.
    columns = [flags]
    for digit in reversed(word):
        columns.append([columns[-1][row[digit]] for row in moves])
    columns.reverse()
    if columns[0][0]:
        return low
    level = {0: 0}
    seen = {}
    power = 1
    place = 0
    # The number has the digits of low above this place, and a higher one than low at it.
    while level:
        above = word[place + 1:]
        column = columns[len(word) - len(above)]
        for digit in range(word[place] + 1 if place < len(word) else 1, p):
            fitting = [number for state, number in level.items() if column[moves[state][digit]]]
            if fitting:
                return min(fitting) + power * (digit + p * number_of(above, p))
        level = led_numbers(moves, level, power)
        power = power * p
        place = place + 1
        if place >= len(word):
            level = {state: number for state, number in level.items() if state not in seen}
            seen.update(level)
    return None


def led_numbers(moves, level, power):
    """The least numbers with a digit more, for each state to which they lead."""
    reached = {}
    for state, number in level.items():
        for digit, further in enumerate(moves[state]):
            told = number + digit * power
            reached[further] = min(told, reached.get(further, told))
    return reached
