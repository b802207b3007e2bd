"""A desk that is worked out plainly, with the other parts of the package, and edits by chance."""

import re

from grammar import LINES, column_of, promises
from restcounts.counts import Count
from restcounts.depths import least_not
from restcounts.errors import (
    BadLine, BadName, BadText, CountError, NoName, NotKept, NothingToRedo, NothingToUndo, TakenName, TooMany)
from restcounts.likeness import Apart, alike
from restcounts.machines import comes, machine_of
from restcounts.moduli import prime_power
from restcounts.relating import lucas
from restcounts.statements import Statement, decide, witness

NAME = "[A-Z][a-z0-9]{0,19}"
FORMS = (
    ("alike", rf" *({NAME}) +alike +({NAME}) *"), ("never", rf" *({NAME}) +never +([0-9]+) *"),
    ("follows", rf" *({NAME}) +follows *"), ("divided", rf" *({NAME}) +divided +by +([0-9]+) *"),
    ("always", r" *always(.*)"))


def error_of(called, *values):
    """The class and the fields of the error that a call raises; None if it raises none."""
    try:
        called(*values)
    except CountError as error:
        return (type(error), *vars(error).values())
    return None


class Wrong(Exception):
    """An error that the plain desk expects, as error_of tells it."""

    def __init__(self, *told):
        self.told = told


def texts_of(items):
    texts = {}
    for name, expression in items:
        texts[name] = re.sub(NAME, lambda found: f"({texts[found.group()]})", expression)
    return texts


def column_in(begin, text, known):
    """The column of what is wrong in an expression or a line, None if nothing is."""
    told = column_of(LINES, begin, text)
    unknown = [found.start() + 1 for found in re.finditer(NAME, text) if found.group() not in known]
    return min([told] * (told is not None) + unknown, default=None)


class PlainDesk:

    def __init__(self, m, known):
        self.m = m
        self.known = known
        self.grammar = promises(m, prime_power(m)[1])
        # Each level is [items, promises, what can be undone, what can be done again].
        self.levels = [[(), (), [], []]]

    def items(self):
        return self.levels[-1][0]

    def names(self):
        return [name for name, _ in self.items()]

    def state(self):
        """What names(), lines() and promises() tell."""
        return (tuple(self.names()), "".join(f"{name} = {text}\n" for name, text in self.items()), self.levels[-1][1])

    def look(self, promise, items):
        """Whether a promise is kept, and its witness."""
        told = column_of(self.grammar, "PROMISE", promise)
        if told is not None:
            raise Wrong(BadText, told)
        kind, found = next((kind, re.fullmatch(form, promise)) for kind, form in FORMS if re.fullmatch(form, promise))
        texts = texts_of(items)
        if kind == "always":
            error = error_of(Statement, found.group(1))
            if error:
                raise Wrong(*error)
        for name in re.findall(NAME, promise):
            if name not in texts:
                raise Wrong(NoName, name)
        key = (self.m, re.sub(NAME, lambda name: f"({texts[name.group()]})", promise))
        if key not in self.known:
            self.known[key] = self.told(kind, found, texts)
        told = self.known[key]
        if len(told) == 3:
            raise Wrong(*told)
        return told

    def told(self, kind, found, texts):
        """The pair, or the error of a machine, which has three items."""
        m = self.m
        try:
            if kind == "always":
                return self.always(found.group(1), texts)
            count = Count(texts[found.group(1)])
            if kind == "alike":
                apart = alike(count, Count(texts[found.group(2)]), m)
                least = apart.n if isinstance(apart, Apart) else None
            elif kind == "never":
                least = dict(comes(machine_of(count, m))).get(int(found.group(2)))
            elif kind == "follows":
                least = lucas(count, m)
            else:
                least = least_not(count, m, int(found.group(2)))
            return (least is None, least)
        except TooMany as error:
            return (TooMany, error.what, error.limit)

    def always(self, text, texts):
        machines = {name: machine_of(Count(texts[name]), self.m) for name in re.findall(NAME, text)}
        letters = Statement(text).letters
        statement = Statement(f"for all {', '.join(letters)}: ({text})" if letters else text)
        return (True, None) if decide(statement, machines) else (False, witness(statement, machines))

    def check(self, items, made):
        for promise in made:
            kept, least = self.look(promise, items)
            if not kept:
                raise Wrong(NotKept, promise, least)

    def edit(self, items, made):
        if len(self.levels) == 1:
            self.check(items, made)
        self.change(items, made)

    def change(self, items, made):
        level = self.levels[-1]
        self.levels[-1] = [tuple(items), tuple(made), [*level[2], (level[0], level[1])], []]

    def put(self, text):
        items = list(self.items())
        seen = []
        for at, line in enumerate(text.split("\n")):
            if not line.strip(" "):
                continue
            head = re.match(rf" *({NAME})", line)
            names = [name for name, _ in items]
            name = head.group(1) if head else None
            ahead = names[:names.index(name)] if name in names else names
            told = column_in("LINE", line, [*ahead, name])
            # A name in its own expression does not stand ahead of it.
            own = [found.start() + 1 for found in re.finditer(NAME, line)][1:] if head else []
            places = [place for place in own if re.match(NAME, line[place - 1:]).group() not in ahead]
            places += [told] * (told is not None) + [head.start(1) + 1 for _ in seen if head and _ == name]
            if places:
                raise Wrong(BadLine, at + 1, min(places))
            item = (name, line[line.index("=") + 1:].strip(" "))
            if name in names:
                items[names.index(name)] = item
            else:
                items.append(item)
            seen.append(name)
        self.edit(items, self.levels[-1][1])

    def define(self, name, expression):
        if not re.fullmatch(NAME, name):
            raise Wrong(BadName, name)
        names = self.names()
        ahead = names[:names.index(name)] if name in names else names
        told = column_in("EXPR", expression, ahead)
        if told is not None:
            raise Wrong(BadText, told)
        items = [(name, expression.strip(" ")) if item[0] == name else item for item in self.items()]
        self.edit(items + [(name, expression.strip(" "))] * (name not in names), self.levels[-1][1])

    def drop(self, name):
        if name not in self.names():
            raise Wrong(NoName, name)
        for other, expression in self.items():
            if name in re.findall(NAME, expression):
                raise Wrong(TakenName, other)
        self.edit([item for item in self.items() if item[0] != name],
                  [text for text in self.levels[-1][1] if name not in re.findall(NAME, text)])

    def rename(self, name, new):
        if not re.fullmatch(NAME, new):
            raise Wrong(BadName, new)
        if name not in self.names():
            raise Wrong(NoName, name)
        if new in self.names():
            raise Wrong(TakenName, new)

        def anew(text):
            return re.sub(NAME, lambda found: new if found.group() == name else found.group(), text)
        self.edit([(anew(other), anew(expression)) for other, expression in self.items()],
                  [anew(text) for text in self.levels[-1][1]])

    def keep(self, promise):
        self.look(promise, self.items())
        made = self.levels[-1][1]
        self.edit(self.items(), made + (promise,) * (promise not in made))

    def release(self, promise):
        made = self.levels[-1][1]
        if promise not in made:
            raise Wrong(NoName, promise)
        self.edit(self.items(), [text for text in made if text != promise])

    def undo(self):
        items, made, past, future = self.levels[-1]
        if not past:
            raise Wrong(NothingToUndo)
        self.levels[-1] = [*past[-1], past[:-1], [*future, (items, made)]]

    def redo(self):
        items, made, past, future = self.levels[-1]
        if not future:
            raise Wrong(NothingToRedo)
        self.levels[-1] = [*future[-1], [*past, (items, made)], future[:-1]]

    def begin(self):
        self.levels.append([*self.levels[-1][:2], [], []])

    def end(self, kind, failed):
        """End an attempt or a trial."""
        items, made, _, _ = self.levels.pop()
        if kind == "attempt" and not failed:
            if len(self.levels) == 1:
                self.check(items, made)
            self.change(items, made)

    def error_of(self, kind, *values):
        """The error that an edit raises, as error_of tells it."""
        try:
            getattr(self, kind)(*values)
        except Wrong as error:
            return error.told
        return None
