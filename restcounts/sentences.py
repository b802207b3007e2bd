"""Statements: read from texts, as trees, and the letters and names in them.

A term is a pair of its number and of its letters, each with the number that multiplies it. A
tree is ("equal", term, term), ("less", term, term), ("tells", name, term, number), ("not", tree),
("and", trees), ("or", trees), ("all", letters, tree) or ("some", letters, tree).
"""

from restcounts.scanning import LETTERS

MOST_OPEN = 40
MOST_FIGURES = 6
GREATEST_FACTOR = 4


def read_statement(scanner, many):
    """Read a statement as far as it goes, where so many brackets and words are open."""
    choices = [read_choice(scanner, many)]
    while is_word(scanner, "o"):
        scanner.word("or")
        choices.append(read_choice(scanner, many))
    return choices[0] if len(choices) == 1 else ("or", tuple(choices))


def read_choice(scanner, many):
    """Read parts joined by and as far as they go."""
    parts = [read_part(scanner, many)]
    while is_word(scanner, "a"):
        scanner.word("and")
        parts.append(read_part(scanner, many))
    return parts[0] if len(parts) == 1 else ("and", tuple(parts))


def is_word(scanner, sign):
    """Read spaces; whether a word that begins with this sign may follow, and does."""
    scanner.skip()
    return scanner.here() == sign and scanner.is_apart()


def read_part(scanner, many):
    """Read one part."""
    scanner.skip()
    if scanner.here() == "(":
        if many >= MOST_OPEN:
            scanner.fail()
        scanner.step_on()
        tree = read_statement(scanner, many + 1)
        scanner.take(")")
        return tree
    scanner.begin()
    begun = scanner.text[scanner.place:scanner.place + 2]
    # Where no word may be opened, its first sign is still a letter.
    if many < MOST_OPEN and begun == "no":
        scanner.word("not")
        return ("not", read_part(scanner, many + 1))
    if many < MOST_OPEN and begun in ("fo", "th"):
        return read_letters_part(scanner, many + 1)
    if begun[:1] != "" and (begun[:1] in LETTERS or scanner.at_figure()):
        return read_comparison(scanner)
    return read_telling(scanner)


def read_letters_part(scanner, many):
    """Read a part that begins with for all or there is."""
    if scanner.here() == "f":
        kind, words = "all", ("for", "all")
    else:
        kind, words = "some", ("there", "is")
    for word in words:
        scanner.begin()
        scanner.word(word)
    letters = [read_letter(scanner)]
    while scanner.took(","):
        letters.append(read_letter(scanner))
    scanner.take(":")
    return (kind, tuple(letters), read_statement(scanner, many))


def read_letter(scanner):
    """Read one letter."""
    scanner.begin()
    letter = scanner.here()
    if letter == "" or letter not in LETTERS:
        scanner.fail()
    scanner.step_on()
    return letter


def read_comparison(scanner):
    """Read two terms with = or < between them."""
    left = read_term(scanner)
    kind = "less" if scanner.took("<") else "equal"
    if kind == "equal":
        scanner.take("=")
    return (kind, left, read_term(scanner))


def read_telling(scanner):
    """Read what a name tells."""
    name = scanner.read_name()
    scanner.begin()
    scanner.word("at")
    term = read_term(scanner)
    scanner.begin()
    scanner.word("is")
    scanner.begin()
    return ("tells", name, term, int(scanner.figures(MOST_FIGURES)))


def read_term(scanner):
    """Read items as far as they go."""
    number = 0
    factors = {}
    while True:
        scanner.begin()
        if scanner.at_figure():
            told = int(scanner.figures(MOST_FIGURES))
            if 1 <= told <= GREATEST_FACTOR and scanner.took("*"):
                letter = read_letter(scanner)
                factors[letter] = factors.get(letter, 0) + told
            else:
                number = number + told
        else:
            letter = read_letter(scanner)
            factors[letter] = factors.get(letter, 0) + 1
        if not scanner.took("+"):
            return (number, tuple(sorted([(letter, factors[letter]) for letter in factors])))


def parts_of(tree):
    """The trees of which this one is put together, in the order of the text."""
    if tree[0] in ("and", "or"):
        return tree[1]
    if tree[0] in ("all", "some"):
        return (tree[2],)
    return (tree[1],) if tree[0] == "not" else ()


def own_letters(tree):
    """The letters in the terms of the tree itself."""
    terms = {"equal": tree[1:], "less": tree[1:], "tells": tree[2:3]}
    return [letter for _, factors in terms.get(tree[0], ()) for letter, _ in factors]


def all_letters(tree):
    """All letters of a tree."""
    found = own_letters(tree)
    if tree[0] in ("all", "some"):
        found = found + list(tree[1])
    for part in parts_of(tree):
        found = found + all_letters(part)
    return sorted({letter: True for letter in found})


def free_letters(tree):
    """The letters that are free somewhere, ascending."""
    found = own_letters(tree)
    for part in parts_of(tree):
        found = found + free_letters(part)
    named = tree[1] if tree[0] in ("all", "some") else ()
    return sorted({letter: True for letter in found if letter not in named})


def names_in(tree):
    """The names in a tree, in the order of the text."""
    found = [tree[1]] if tree[0] == "tells" else []
    for part in parts_of(tree):
        found = found + names_in(part)
    return found
