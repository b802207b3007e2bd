"""Automata that read the digits of several numbers at once, the low ones first.

Each of their letters stands for a number. A step is one digit of each, told by the number whose
digits they are. Digits 0 of all numbers above the highest ones change no mark.
"""

from restcounts.arithmetic import power_of
from restcounts.moduli import digits
from restcounts.states import explored, least_number_of, least_states
from restcounts.systems import dot


class Automaton:
    """The base, the letters, ascending, and as few states as can be with marks."""

    def __init__(self, p, letters, moves, marks):
        self.p = p
        self.letters = letters
        self.moves, self.marks = least_states(moves, marks)


def digits_of_steps(p, many):
    """For each step of so many letters their digits."""
    found = [()]
    for _ in range(many):
        found = [row + (digit,) for digit in range(p) for row in found]
    return found


def step_with(p, told):
    """The step with these digits."""
    step = 0
    for digit in reversed(told):
        step = step * p + digit
    return step


def sums_of(p, factors):
    """For each step the sum of the digits, each times its factor."""
    return [dot(factors, told) for told in digits_of_steps(p, len(factors))]


def comparing(p, kind, number, factors):
    """Whether the sum of a number and of letters times factors is 0, or less than 0."""
    letters = tuple([letter for letter in sorted(factors) if factors[letter] != 0])
    sums = sums_of(p, [factors[letter] for letter in letters])
    is_equal = kind == "equal"

    # The state is what is left to be added above, None if the sum can't be 0 any more.
    def lead(left, step):
        if left is None:
            return None
        left, digit = divmod(left + sums[step], p)
        return None if is_equal and digit != 0 else left

    states, moves = explored(number, lead, len(sums), None)
    marks = [left is not None and (left == 0 if is_equal else left < 0) for left in states]
    return Automaton(p, letters, moves, marks)


def telling(machine, number, factors, value):
    """Whether the machine tells the value for the sum of a number and of letters times factors."""
    p = machine.p
    letters = tuple(sorted(factors))
    sums = sums_of(p, [factors[letter] for letter in letters])

    def lead(state, step):
        here, left = state
        left, digit = divmod(left + sums[step], p)
        return (machine.moves[here][digit], left)

    def told(state):
        here, left = state
        for digit in digits(left, p):
            here = machine.moves[here][digit]
        return machine.worths[here]

    states, moves = explored((0, number), lead, len(sums), None)
    return Automaton(p, letters, moves, [told(state) == value for state in states])


def steps_among(p, letters, some):
    """For each step of all letters the step of some of them."""
    places = [letters.index(letter) for letter in some]
    return [step_with(p, [told[place] for place in places])
            for told in digits_of_steps(p, len(letters))]


def joined_by(kind, one, other):
    """Whether both, or at least one of them, are right, by kind."""
    letters = tuple(sorted({letter: True for letter in one.letters + other.letters}))
    steps = steps_among(one.p, letters, one.letters)
    steps2 = steps_among(one.p, letters, other.letters)

    def lead(pair, step):
        return (one.moves[pair[0]][steps[step]], other.moves[pair[1]][steps2[step]])

    states, moves = explored((0, 0), lead, len(steps), None)
    if kind == "and":
        marks = [one.marks[state] and other.marks[state2] for state, state2 in states]
    else:
        marks = [one.marks[state] or other.marks[state2] for state, state2 in states]
    return Automaton(one.p, letters, moves, marks)


def opposite(one):
    """Whether it is not right."""
    return Automaton(one.p, one.letters, one.moves, [not mark for mark in one.marks])


def with_letter(one, letter):
    """The same with one letter more, whose number means nothing."""
    letters = tuple(sorted(one.letters + (letter,)))
    steps = steps_among(one.p, letters, one.letters)
    return Automaton(one.p, letters, [[row[step] for step in steps] for row in one.moves], one.marks)


def with_some(one, letter):
    """Whether it is right with some number in the place of the letter."""
    letters = tuple([other for other in one.letters if other != letter])
    groups = [[] for _ in range(power_of(one.p, len(letters)))]
    for step, group in enumerate(steps_among(one.p, one.letters, letters)):
        groups[group].append(step)
    masks = masks_of_steps(one, groups)
    right = right_states(one, groups[0])
    full = full_mask(one)

    # The state is the lot of all states that are met with some digits of the letter.
    def lead(mask, group):
        met = 0
        for place in places_of(mask):
            met = met | masks[group][place]
        return full if met & full else met

    states, moves = explored(1, lead, len(groups), None)
    return Automaton(one.p, letters, moves, [mask & right != 0 for mask in states])


def masks_of_steps(one, groups):
    """For each lot of steps and each state the mask of the states to which they lead.

    A state from which nothing is right any more is left out.
    """
    lost = [not mark and min(row) == max(row) == state
            for state, (mark, row) in enumerate(zip(one.marks, one.moves))]
    found = []
    for steps in groups:
        masks = []
        for row in one.moves:
            mask = 0
            for step in steps:
                if not lost[row[step]]:
                    mask = mask | (1 << row[step])
            masks.append(mask)
        found.append(masks)
    return found


def full_mask(one):
    """The mask of the state from which all is right, 0 if there is none."""
    found = 0
    for state, row in enumerate(one.moves):
        if one.marks[state] and min(row) == max(row) == state:
            found = 1 << state
    return found


def right_states(one, steps):
    """The mask of all states from which words of these steps lead to right ones."""
    mask = 0
    for state, mark in enumerate(one.marks):
        if mark:
            mask = mask | (1 << state)
    before = -1
    while before != mask:
        before = mask
        for state, row in enumerate(one.moves):
            if any([mask & (1 << row[step]) for step in steps]):
                mask = mask | (1 << state)
    return mask


def places_of(mask):
    """The places of the ones of a mask."""
    found = []
    while mask:
        place = mask.bit_length() - 1
        found.append(place)
        mask = mask ^ (1 << place)
    return found


def with_number(one, letter, number):
    """Whether it is right with this number in the place of the letter."""
    letters = tuple([other for other in one.letters if other != letter])
    word = digits(number, one.p)
    at = one.letters.index(letter)
    steps = [[step_with(one.p, told[:at] + (digit,) + told[at:])
              for told in digits_of_steps(one.p, len(letters))] for digit in range(one.p)]

    def lead(state, step):
        here, place = state
        digit = word[place] if place < len(word) else 0
        return (one.moves[here][steps[digit][step]], min(place + 1, len(word)))

    def mark_of(state):
        here, place = state
        for digit in word[place:]:
            here = one.moves[here][steps[digit][0]]
        return one.marks[here]

    states, moves = explored((0, 0), lead, len(steps[0]), None)
    return Automaton(one.p, letters, moves, [mark_of(state) for state in states])


def least_right(one):
    """The least number of its only letter with which it is right; None if there is none."""
    return least_number_of(one.moves, one.marks, True, one.p)


def right_rows(one, below):
    """All tuples of numbers below this one, one for each letter, with which it is right; ascending."""
    longest = len(digits(below, one.p))
    words = [digits(number, one.p) for number in range(below)]
    words = [word + (0,) * (longest - len(word)) for word in words]
    # Each tuple stands beside the steps that its numbers make together.
    rows = [((), (0,) * longest)]
    weight = 1
    for _ in one.letters:
        weighted = [[weight * digit for digit in word] for word in words]
        rows = [(numbers + (number,), [step + digit for step, digit in zip(steps, word)])
                for numbers, steps in rows for number, word in enumerate(weighted)]
        weight = weight * one.p
    return tuple([numbers for numbers, steps in rows if is_right_along(one, steps)])


def is_right_along(one, steps):
    """Whether it is right behind these steps."""
    state = 0
    for step in steps:
        state = one.moves[state][step]
    return one.marks[state]
