"""Statements about all integers from 0 on."""

from restcounts.automata import (
    comparing, joined_by, least_right, opposite, right_rows, telling, with_letter, with_number, with_some)
from restcounts.errors import BadName, BadNumber, NoName, TooMany, Unlike
from restcounts.kinds import is_integer
from restcounts.machines import least_machine, least_made
from restcounts.scanning import Scanner
from restcounts.sentences import all_letters, free_letters, names_in, read_statement

MOST_LETTERS = 3
MOST_STATES = 12
MOST_BELOW = 60


class Statement:
    """What the text of a statement says, as a tree."""

    def __init__(self, text):
        scanner = Scanner(text)
        self.text = text
        self.tree = read_statement(scanner, 0)
        scanner.end()
        check_letters(self.tree)
        self.letters = tuple(free_letters(self.tree))


def check_letters(tree):
    """Raise TooMany if there are more than three letters."""
    if len(all_letters(tree)) > MOST_LETTERS:
        raise TooMany("letters", MOST_LETTERS)


def base_of(tree, machines):
    """The base of the machines that a tree names, 2 if it names none; the errors about them."""
    named = names_in(tree)
    for name in named:
        if name not in machines:
            raise NoName(name)
    check_machines([machines[name] for name in named])
    return machines[named[0]].p if named else 2


def check_machines(named):
    """Raise the errors about the machines that a text names, in its order."""
    if any([machine.size > MOST_STATES for machine in named]):
        raise TooMany("states", MOST_STATES)
    if any([machine.p != named[0].p for machine in named]):
        raise Unlike("p")


def check_closed(tree):
    """Raise BadName if some letter is free."""
    letters = free_letters(tree)
    if letters:
        raise BadName(letters[0])


def automaton_of(tree, machines, p):
    """The automaton that tells with which numbers the tree is true."""
    kind = tree[0]
    if kind == "tells":
        number, factors = tree[2]
        machine = least_machine(machines[tree[1]])
        return telling(machine, number, {letter: factor for letter, factor in factors}, tree[3])
    if kind in ("equal", "less"):
        return comparing(p, kind, tree[1][0] - tree[2][0], differences(tree[1], tree[2]))
    if kind == "not":
        return opposite(automaton_of(tree[1], machines, p))
    if kind in ("and", "or"):
        joined = automaton_of(tree[1][0], machines, p)
        for part in tree[1][1:]:
            joined = joined_by(kind, joined, automaton_of(part, machines, p))
        return joined
    inner = automaton_of(tree[2], machines, p)
    if kind == "all":
        return opposite(with_somes(opposite(inner), tree[1]))
    return with_somes(inner, tree[1])


def differences(term, term2):
    """For each letter of two terms the number that multiplies it in the first less the second."""
    found = {letter: factor for letter, factor in term[1]}
    for letter, factor in term2[1]:
        found[letter] = found.get(letter, 0) - factor
    return found


def with_somes(automaton, letters):
    """Whether it is right with some numbers in the places of these letters."""
    for letter in letters:
        if letter in automaton.letters:
            automaton = with_some(automaton, letter)
    return automaton


def decide(statement, machines):
    """Whether a statement without free letters is true."""
    p = base_of(statement.tree, machines)
    check_closed(statement.tree)
    return automaton_of(statement.tree, machines, p).marks[0]


def truth_machine(statement, machines):
    """The least machine that tells 1 for each number with which the statement is true, else 0."""
    p = base_of(statement.tree, machines)
    if len(statement.letters) != 1:
        raise BadNumber("letters", len(statement.letters))
    automaton = automaton_of(statement.tree, machines, p)
    if not automaton.letters:
        automaton = with_letter(automaton, statement.letters[0])
    return least_made(p, automaton.moves, [1 if mark else 0 for mark in automaton.marks])


def solutions(statement, machines, below):
    """All tuples of integers below this one with which the statement is true, ascending."""
    p = base_of(statement.tree, machines)
    letters = statement.letters
    if not letters:
        raise BadNumber("letters", 0)
    if not is_integer(below) or below < 0 or below > MOST_BELOW:
        raise BadNumber("below", below)
    automaton = automaton_of(statement.tree, machines, p)
    for letter in letters:
        if letter not in automaton.letters:
            automaton = with_letter(automaton, letter)
    return right_rows(automaton, below)


def witness(statement, machines):
    """The least values that show that the statement is true, or that it is not, or None."""
    p = base_of(statement.tree, machines)
    check_closed(statement.tree)
    return least_values(statement.tree, machines, p)


def least_values(tree, machines, p):
    """The witness of a tree without free letters."""
    kind = tree[0]
    if kind not in ("all", "some"):
        return None
    letters = ()
    while tree[0] == kind:
        letters = letters + tree[1]
        tree = tree[2]
    automaton = automaton_of(tree, machines, p)
    if kind == "all":
        automaton = opposite(automaton)
    if not with_somes(automaton, letters).marks[0]:
        return None
    values = []
    for at, letter in enumerate(letters):
        behind = letters[at + 1:]
        value = 0
        # A letter that is named again further in means nothing here.
        if letter not in behind and letter in automaton.letters:
            value = least_right(with_somes(automaton, behind))
            automaton = with_number(automaton, letter, value)
        values.append(value)
    return tuple(values)
