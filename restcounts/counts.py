"""Counts: their texts, their trees and their plain values."""

from restcounts.constants import constant_parts
from restcounts.errors import BadNumber, TooLarge, Unlike
from restcounts.kinds import is_integer
from restcounts.moduli import prime_power
from restcounts.trees import MOST_BRACKETS, fits, read_tree, text_of_tree
from restcounts.valuing import values_at, walk_at

MOST_N = 200
MOST_VALUES = 400
MOST_RESTS = 2000


class Count:
    """What the text of a count tells."""

    def __init__(self, text):
        self.text = text
        self.tree = read_tree(text)

    def value(self, n):
        """The value at n, exactly."""
        check_below("n", n, MOST_N)
        return values_at(self.tree, (n,), 0)[0]

    def first_rests(self, many, m):
        """The rests of the values at 0, 1, .., many - 1."""
        check_below("many", many, MOST_RESTS)
        prime_power(m)
        return tuple(values_at(self.tree, tuple(range(many)), m))


def check_below(what, number, limit):
    """Raise the errors for what is no integer from 0 to limit."""
    if not is_integer(number) or number < 0:
        raise BadNumber(what, number)
    if number > limit:
        raise TooLarge(what, number, limit)


def is_tree(value):
    """Whether any value is the tree of some text."""
    return fits(value, MOST_BRACKETS)


def count_text(tree):
    """The text of a tree with the fewest brackets."""
    if not fits(tree, MOST_BRACKETS):
        raise Unlike("tree")
    return text_of_tree(tree)


def count_of(tree):
    """The Count of the text of a tree."""
    return Count(count_text(tree))


def walk_values(steps, ends, many):
    """The constant parts of steps to the power n, times ends, for n below many."""
    check_below("many", many, MOST_VALUES)
    return tuple(constant_parts(steps, ends, tuple(range(many))))


def walk_rests(steps, ends, many, m):
    """The rests of these constant parts."""
    check_below("many", many, MOST_RESTS)
    prime_power(m)
    return tuple(walk_at(steps, ends, tuple(range(many)), m))
