"""The longest beginning of a text with which some right text begins, straight from a grammar.

A grammar is a dict from names to tuples of ways, a way being a tuple of names and of characters;
a name in angles is a class of characters. All readings are followed at once, character by character.
"""

SPACES = {"S": ((), (" ", "S"))}
NUMBERS = {"N": (("0",), ("<1-9>", "M")), "M": ((), ("<0-9>", "M"))}

POWERS = {
    "POWERS": (("S", "TERM", "MORE"), ("S", "-", "TERM", "MORE")),
    "MORE": ((), ("+", "TERM", "MORE"), ("-", "TERM", "MORE")),
    "TERM": (("S", "PART", "S"), ("S", "PART", "S", "*", "TERM")),
    "PART": (("N",), ("LETTER",), ("LETTER", "S", "^", "S", "N"), ("LETTER", "S", "^", "S", "-", "S", "N")),
    "LETTER": (("x",), ("y",), ("z",)),
    **SPACES, **NUMBERS,
}


def brackets(word, *inner):
    """The way word [ inner ], with spaces wherever they may stand."""
    return (*word, "S", "[", *inner, "]")


COUNTS = {
    **POWERS,
    "EXPR": (("S", "ETERM", "EMORE"), ("S", "-", "ETERM", "EMORE")),
    "EMORE": ((), ("+", "ETERM", "EMORE"), ("-", "ETERM", "EMORE")),
    "ETERM": (("S", "FACTOR", "S"), ("S", "FACTOR", "S", "*", "ETERM")),
    "FACTOR": (
        ("N",), ("(", "EXPR", ")"), brackets("walk", "POWERS"), brackets("walk", "POWERS", ";", "POWERS"),
        brackets("sum", "EXPR"), brackets("next", "EXPR"), brackets("step", "EXPR"),
        brackets("at", "S", "C", "S", ",", "S", "D", "S", ":", "EXPR"),
        brackets("fold", "EXPR", ",", "EXPR")),
    "C": (("<1-9>",), ("<1-9>", "<0-9>")),
    "D": (("0",), ("<1-9>",), ("<1-9>", "<0-9>"), ("<1-9>", "<0-9>", "<0-9>")),
}

CLASSES = {"<0-9>": "0123456789", "<1-9>": "123456789", "<1-4>": "1234", "<a-z>": "abcdefghijklmnopqrstuvwxyz",
           "<A-Z>": "ABCDEFGHIJKLMNOPQRSTUVWXYZ", "<a-z0-9>": "abcdefghijklmnopqrstuvwxyz0123456789"}


def up_to(name, kind, many):
    """The rules for up to so many characters of a kind, and the name of what stands for them."""
    rules = {f"{name}0": ((),)}
    for left in range(1, many + 1):
        rules[f"{name}{left}"] = ((), (kind, f"{name}{left - 1}"))
    return rules


WORD, SIGN = "w", "s"


def gap(end, begin):
    """The spaces between what ends and what begins with a word or a sign."""
    return "G" if end == begin == WORD else "S"


def joined_ways(part, whole, word, begin, end):
    """The ways of parts with a word between them; all are named with how they begin and end."""
    ways = [(part + begin + end,)]
    for end2 in (WORD, SIGN):
        for begin2 in (WORD, SIGN):
            ways.append((part + begin + end2, gap(end2, WORD), *word, gap(WORD, begin2), whole + begin2 + end))
    return tuple(ways)


def statement_rules():
    """The rules of statements: each of their names ends with how they begin and end, by word or sign."""
    rules = {}
    kinds = (WORD, SIGN)
    for end in kinds:
        ways = [("n", "o", "t", gap(WORD, begin), "PART" + begin + end) for begin in kinds]
        for words in (("f", "o", "r", "G", "a", "l", "l"), ("t", "h", "e", "r", "e", "G", "i", "s")):
            ways += [(*words, "G", "LETTERS", "S", ":", "S", "STATEMENT" + begin + end) for begin in kinds]
        rules[f"PARTw{end}"] = tuple(ways)
    rules["PARTww"] += (
        ("TERM", "S", "=", "S", "TERM"), ("TERM", "S", "<", "S", "TERM"),
        ("NAME", "G", "a", "t", "G", "TERM", "G", "i", "s", "G", "NUMBER"))
    rules["PARTsw"] = ()
    rules["PARTss"] = tuple(("(", "S", "STATEMENT" + begin + end, "S", ")") for begin in kinds for end in kinds)
    for begin in kinds:
        for end in kinds:
            rules["CHOICE" + begin + end] = joined_ways("PART", "CHOICE", "and", begin, end)
            rules["STATEMENT" + begin + end] = joined_ways("CHOICE", "STATEMENT", "or", begin, end)
    return rules


STATEMENTS = {
    "TEXT": tuple(("S", "STATEMENT" + begin + end, "S") for begin in (WORD, SIGN) for end in (WORD, SIGN)),
    **statement_rules(),
    "LETTERS": (("<a-z>",), ("<a-z>", "S", ",", "S", "LETTERS")),
    "TERM": (("ITEM",), ("ITEM", "S", "+", "S", "TERM")),
    "ITEM": (("NUMBER",), ("<a-z>",), ("<1-4>", "S", "*", "S", "<a-z>")),
    "NUMBER": (("0",), ("<1-9>", "F5")),
    "NAME": (("<A-Z>", "T19"),),
    "G": ((" ", "S"),),
    **up_to("F", "<0-9>", 5), **up_to("T", "<a-z0-9>", 19), **SPACES,
}


LINES = {
    **COUNTS,
    "LINE": (("S", "NAME", "S", "=", "EXPR"),),
    "FACTOR": COUNTS["FACTOR"] + (("NAME",),),
    "NAME": STATEMENTS["NAME"], **up_to("T", "<a-z0-9>", 19),
}


def promises(m, k):
    """The grammar of promises modulo m, which is a prime to the power k, and of questions."""
    always = tuple(("S", *"always", gap(WORD, begin), "STATEMENT" + begin + end, "S")
                   for begin in (WORD, SIGN) for end in (WORD, SIGN))
    named = ("S", "NAME", "G")
    return {
        **STATEMENTS,
        "PROMISE": always + (
            (*named, *"alike", "G", "NAME", "S"), (*named, *"never", "G", "R", "S"), (*named, *"follows", "S"),
            (*named, *"divided", "G", *"by", "G", "J", "S")),
        "QUESTION": (
            (*named, *"at", "G", "N", "S"), (*named, *"apart", "G", "NAME", "S"), (*named, *"first", "G", "R", "S"),
            (*named, *"many", "G", "R", "G", *"below", "G", "N", "S"), (*named, *"rows", "S")),
        "R": tuple(tuple(str(rest)) for rest in range(m)),
        "J": tuple(tuple(str(j)) for j in range(k + 1)),
        **NUMBERS,
    }


class Reader:
    """All readings of a text that is read character by character."""

    def __init__(self, grammar, begin):
        self.grammar = grammar
        # A state is (name, way, how far it is read, where it began).
        self.begin = begin
        self.sets = [{(begin, way, 0, 0): True for way in grammar[begin]}]
        self.fill()

    def fill(self):
        at = len(self.sets) - 1
        states, todo = self.sets[at], list(self.sets[at])
        done_here = {}

        def add(state):
            if state not in states:
                states[state] = True
                todo.append(state)
        while todo:
            name, way, place, begun = todo.pop()
            if place == len(way):
                if begun == at:
                    done_here[name] = True
                for other, way2, place2, begun2 in list(self.sets[begun]):
                    if place2 < len(way2) and way2[place2] == name:
                        add((other, way2, place2 + 1, begun2))
            elif way[place] in self.grammar:
                for inner in self.grammar[way[place]]:
                    add((way[place], inner, 0, at))
                if way[place] in done_here:
                    add((name, way, place + 1, begun))

    def read(self, character):
        """Read one character; whether some right text can begin so."""
        states = {}
        for name, way, place, begun in self.sets[-1]:
            if place < len(way) and character in CLASSES.get(way[place], way[place]) and (
                    way[place] not in self.grammar):
                states[name, way, place + 1, begun] = True
        if not states:
            return False
        self.sets.append(states)
        self.fill()
        return True

    def is_right(self):
        """Whether what is read is a right text."""
        return any(name == self.begin and place == len(way) and begun == 0
                   for name, way, place, begun in self.sets[-1])


def column_of(grammar, begin, text):
    """None if the text is right, otherwise the column of the error."""
    reader = Reader(grammar, begin)
    for at, character in enumerate(text):
        if not reader.read(character):
            return at + 1
    return None if reader.is_right() else len(text) + 1
