"""The longest beginning of a text with which some right text begins, straight from a grammar.

A grammar is a dict from names to tuples of ways, a way being a tuple of names and of characters;
a name in angles is a class of characters. All readings are followed at once, character by character.
"""

SPACES = {"S": ((), (" ", "S"))}
NUMBERS = {"N": (("0",), ("<1-9>", "M")), "M": ((), ("<0-9>", "M"))}

POWERS = {
    "POWERS": (("S", "TERM", "MORE"), ("S", "-", "TERM", "MORE")),
    "MORE": ((), ("+", "TERM", "MORE"), ("-", "TERM", "MORE")),
    "TERM": (("S", "PART", "S"), ("S", "PART", "S", "*", "TERM")),
    "PART": (("N",), ("LETTER",), ("LETTER", "S", "^", "S", "N"), ("LETTER", "S", "^", "S", "-", "S", "N")),
    "LETTER": (("x",), ("y",), ("z",)),
    **SPACES, **NUMBERS,
}


def brackets(word, *inner):
    """The way word [ inner ], with spaces wherever they may stand."""
    return (*word, "S", "[", *inner, "]")


COUNTS = {
    **POWERS,
    "EXPR": (("S", "ETERM", "EMORE"), ("S", "-", "ETERM", "EMORE")),
    "EMORE": ((), ("+", "ETERM", "EMORE"), ("-", "ETERM", "EMORE")),
    "ETERM": (("S", "FACTOR", "S"), ("S", "FACTOR", "S", "*", "ETERM")),
    "FACTOR": (
        ("N",), ("(", "EXPR", ")"), brackets("walk", "POWERS"), brackets("walk", "POWERS", ";", "POWERS"),
        brackets("sum", "EXPR"), brackets("next", "EXPR"), brackets("step", "EXPR"),
        brackets("at", "S", "C", "S", ",", "S", "D", "S", ":", "EXPR"),
        brackets("fold", "EXPR", ",", "EXPR")),
    "C": (("<1-9>",), ("<1-9>", "<0-9>")),
    "D": (("0",), ("<1-9>",), ("<1-9>", "<0-9>"), ("<1-9>", "<0-9>", "<0-9>")),
}

CLASSES = {"<0-9>": "0123456789", "<1-9>": "123456789"}


class Reader:
    """All readings of a text that is read character by character."""

    def __init__(self, grammar, begin):
        self.grammar = grammar
        # A state is (name, way, how far it is read, where it began).
        self.begin = begin
        self.sets = [{(begin, way, 0, 0): True for way in grammar[begin]}]
        self.fill()

    def fill(self):
        at = len(self.sets) - 1
        states, todo = self.sets[at], list(self.sets[at])
        done_here = {}

        def add(state):
            if state not in states:
                states[state] = True
                todo.append(state)
        while todo:
            name, way, place, begun = todo.pop()
            if place == len(way):
                if begun == at:
                    done_here[name] = True
                for other, way2, place2, begun2 in list(self.sets[begun]):
                    if place2 < len(way2) and way2[place2] == name:
                        add((other, way2, place2 + 1, begun2))
            elif way[place] in self.grammar:
                for inner in self.grammar[way[place]]:
                    add((way[place], inner, 0, at))
                if way[place] in done_here:
                    add((name, way, place + 1, begun))

    def read(self, character):
        """Read one character; whether some right text can begin so."""
        states = {}
        for name, way, place, begun in self.sets[-1]:
            if place < len(way) and character in CLASSES.get(way[place], way[place]) and (
                    way[place] not in self.grammar):
                states[name, way, place + 1, begun] = True
        if not states:
            return False
        self.sets.append(states)
        self.fill()
        return True

    def is_right(self):
        """Whether what is read is a right text."""
        return any(name == self.begin and place == len(way) and begun == 0
                   for name, way, place, begun in self.sets[-1])


def column_of(grammar, begin, text):
    """None if the text is right, otherwise the column of the error."""
    reader = Reader(grammar, begin)
    for at, character in enumerate(text):
        if not reader.read(character):
            return at + 1
    return None if reader.is_right() else len(text) + 1
