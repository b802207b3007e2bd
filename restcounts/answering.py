"""Answers about counts that are told by their texts: what holds of them, and what they tell."""

from restcounts.counts import Count
from restcounts.depths import least_not
from restcounts.errors import NoName
from restcounts.likeness import first_apart
from restcounts.machines import comes, machine_of
from restcounts.naming import replaced
from restcounts.numbers import how_many
from restcounts.promising import read_promise, read_question
from restcounts.relating import lucas
from restcounts.residuals import fewest
from restcounts.sentences import free_letters
from restcounts.statements import automaton_of, base_of, least_values
from restcounts.tables import rest_at, tables_of


class Answers:
    """Answers modulo m, kept so that nothing is worked out twice.

    Each method gets, as texts, for each name the text of its count.
    """

    def __init__(self, m):
        self.m = m
        self._machines = {}
        self._witnesses = {}

    def machine_for(self, text):
        """The least machine of the count with this text."""
        if text not in self._machines:
            self._machines[text] = machine_of(Count(text), self.m)
        return self._machines[text]

    def look(self, promise, texts):
        """The pair of whether a promise is kept, and of its witness."""
        kind, named, told = read_promise(promise, self.m)
        check_names(named, texts)
        # With its names replaced by texts, a promise means the same whatever the names mean later.
        key = replaced(promise, texts)
        if key not in self._witnesses:
            if kind == "always":
                machines = {name: self.machine_for(texts[name]) for name in named}
                self._witnesses[key] = look_always(told, machines)
            else:
                witness = self.witness_of(kind, [texts[name] for name in named], told)
                self._witnesses[key] = (witness is None, witness)
        return self._witnesses[key]

    def witness_of(self, kind, named, number):
        """The least integer that shows that a promise of this kind is not kept, or None."""
        if kind == "alike":
            return self.least_apart(named)
        if kind == "never":
            return self.least_with(named[0], number)
        if kind == "follows":
            return lucas(Count(named[0]), self.m)
        return least_not(Count(named[0]), self.m, number)

    def least_apart(self, named):
        """The least n at which the counts of two texts are unlike; None if there is none."""
        one, other = [tables_of(Count(text), self.m) for text in named]
        return first_apart(one, other, 0)

    def least_with(self, text, rest):
        """The least n at which the count of a text has this rest; None if there is none."""
        found = {value: n for value, n in comes(self.machine_for(text))}
        return found.get(rest)

    def answer(self, question, texts):
        """The answer to a question, as a text."""
        kind, named, numbers = read_question(question, self.m)
        check_names(named, texts)
        text = texts[named[0]]
        if kind == "at":
            told = rest_at(Count(text), numbers[0], self.m)
        elif kind == "apart":
            told = self.least_apart([texts[name] for name in named])
        elif kind == "first":
            told = self.least_with(text, numbers[0])
        elif kind == "many":
            told = how_many(self.machine_for(text), numbers[0], numbers[1])
        else:
            told = fewest(Count(text), self.m)
        return "never" if told is None else str(told)


def check_names(named, texts):
    """Raise NoName for the first name that has no text."""
    for name in named:
        if name not in texts:
            raise NoName(name)


def look_always(tree, machines):
    """Whether a statement is true for all values of its free letters, and the witness if not."""
    p = base_of(tree, machines)
    letters = tuple(free_letters(tree))
    whole = ("all", letters, tree) if letters else tree
    if automaton_of(whole, machines, p).marks[0]:
        return True, None
    return False, least_values(whole, machines, p)
