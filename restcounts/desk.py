"""A desk for counts and for promises about them."""

from restcounts.answering import Answers
from restcounts.counts import Count
from restcounts.errors import (
    BadName, NoName, NotKept, NothingToRedo, NothingToUndo, TakenName)
from restcounts.moduli import prime_power
from restcounts.naming import is_name, pieces_of, renamed, texts_of, with_item, with_lines


class Frame:
    """A state of items and promises, what can be undone and done again, and the frame around.

    The items are pairs of names and expressions, the promises are texts.
    """

    def __init__(self, state, outer):
        self.state = state
        self.outer = outer
        self.past = []
        self.future = []

    def change(self, state):
        """Go on to a state, so that this can be undone."""
        self.past.append(self.state)
        self.future = []
        self.state = state


class Desk:
    """Counts under names, modulo m, and promises that are kept behind each edit.

    Each attempt and each trial has a frame of its own; what it leaves behind is the frame around.
    """

    def __init__(self, m, text=""):
        prime_power(m)
        self.m = m
        self._answers = Answers(m)
        self._frame = Frame((with_lines((), text), ()), None)

    def _items(self):
        """The pairs of names and expressions."""
        return self._frame.state[0]

    def _texts(self):
        """For each name the text of its count."""
        return texts_of(self._items())

    def _check_name(self, name):
        """Raise NoName for any value that is no name of an item."""
        if name not in self.names():
            raise NoName(name)

    def _check_kept(self, state):
        """Raise the error for the first promise of a state that is not kept, if there is one."""
        texts = texts_of(state[0])
        for promise in state[1]:
            is_kept, witness = self._answers.look(promise, texts)
            if not is_kept:
                raise NotKept(promise, witness)

    def _edit(self, state):
        """Make an edit that leads to a state."""
        if self._frame.outer is None:
            self._check_kept(state)
        self._frame.change(state)

    def put(self, text):
        """Put the lines of a text in the places of items, or behind them."""
        self._edit((with_lines(self._items(), text), self.promises()))

    def define(self, name, expression):
        """Put one item."""
        if not is_name(name):
            raise BadName(name)
        self._edit((with_item(self._items(), name, expression), self.promises()))

    def drop(self, name):
        """Take an item away that no other one names, and the promises that name it."""
        self._check_name(name)
        for other, expression in self._items():
            if name in pieces_of(expression):
                raise TakenName(other)
        items = tuple([item for item in self._items() if item[0] != name])
        self._edit((items, tuple([text for text in self.promises() if name not in pieces_of(text)])))

    def rename(self, name, new):
        """Give an item a new name, wherever it is named."""
        if not is_name(new):
            raise BadName(new)
        self._check_name(name)
        if new in self.names():
            raise TakenName(new)
        items = [(new if other == name else other, renamed(expression, name, new))
                 for other, expression in self._items()]
        self._edit((tuple(items), tuple([renamed(text, name, new) for text in self.promises()])))

    def keep(self, promise):
        """Make a promise, if it is not made."""
        # The errors of a promise that can't be asked come at once, in attempts and trials too.
        self._answers.look(promise, self._texts())
        made = self.promises()
        self._edit((self._items(), made if promise in made else made + (promise,)))

    def release(self, promise):
        """Take a promise back."""
        if promise not in self.promises():
            raise NoName(promise)
        self._edit((self._items(), tuple([text for text in self.promises() if text != promise])))

    def attempt(self, action):
        """Call the function with the desk; all its edits are one, or none if an error is raised."""
        outer = self._frame
        inner = Frame(outer.state, outer)
        self._frame = inner
        try:
            told = action(self)
            if outer.outer is None:
                self._check_kept(inner.state)
        finally:
            self._frame = outer
        outer.change(inner.state)
        return told

    def trial(self, action):
        """Call the function with the desk, and leave the desk as it was."""
        outer = self._frame
        self._frame = Frame(outer.state, outer)
        try:
            return action(self)
        finally:
            self._frame = outer

    def __enter__(self):
        self._frame = Frame(self._frame.state, self._frame)
        return self

    def __exit__(self, kind, value, trace):
        frame = self._frame
        self._frame = frame.outer

    def undo(self):
        """Take the last edit back."""
        frame = self._frame
        if not frame.past:
            raise NothingToUndo()
        frame.future.append(frame.state)
        frame.state = frame.past.pop()

    def redo(self):
        """Do again what was undone last."""
        frame = self._frame
        if not frame.future:
            raise NothingToRedo()
        frame.past.append(frame.state)
        frame.state = frame.future.pop()

    def lines(self):
        """The text of the desk."""
        return "".join([f"{name} = {expression}\n" for name, expression in self._items()])

    def names(self):
        """The names of the items, in their order."""
        return tuple([name for name, _ in self._items()])

    def promises(self):
        """The promises, in the order in which they were made."""
        return self._frame.state[1]

    def get(self, name):
        """The Count of an item."""
        self._check_name(name)
        return Count(self._texts()[name])

    def kept(self, promise):
        """The pair of whether a promise is kept now, and of its witness."""
        return self._answers.look(promise, self._texts())

    def broken(self):
        """The pairs of the promises that are not kept and of their witnesses, in order."""
        looked = [(promise, self.kept(promise)) for promise in self.promises()]
        return tuple([(promise, told[1]) for promise, told in looked if not told[0]])

    def ask(self, question):
        """The answer to a question, as a text."""
        return self._answers.answer(question, self._texts())
