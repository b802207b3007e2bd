"""Trees of counts: read from texts, looked at, and told as texts."""

from restcounts.errors import BadText
from restcounts.kinds import is_integer
from restcounts.powers import powers_of, powers_text, read_powers
from restcounts.scanning import Scanner

MOST_BRACKETS = 40
MOST_FIGURES = 40
NUMBER_LIMIT = 10 ** 40
FACTOR_LIMIT = 100
FACTOR_FIGURES = 2
OFFSET_LIMIT = 1000
OFFSET_FIGURES = 3
WORDS = ("walk", "sum", "next", "step", "at", "fold")
# Words with nothing but one count in their brackets.
PLAIN_WORDS = ("sum", "next", "step")


def read_tree(text):
    """The tree of the text of a count."""
    scanner = Scanner(text)
    tree = read_sum(scanner, 0)
    scanner.end()
    return tree


def read_sum(scanner, brackets):
    """Read terms as far as they go, where so many brackets are open."""
    sign = -1 if scanner.took("-") else 1
    terms = [(sign, read_product(scanner, brackets))]
    while True:
        if scanner.took("+"):
            terms.append((1, read_product(scanner, brackets)))
        elif scanner.took("-"):
            terms.append((-1, read_product(scanner, brackets)))
        elif len(terms) == 1 and sign == 1:
            return terms[0][1]
        else:
            return ("plus", tuple(terms))


def read_product(scanner, brackets):
    """Read factors as far as they go."""
    factors = [read_factor(scanner, brackets)]
    while scanner.took("*"):
        factors.append(read_factor(scanner, brackets))
    if len(factors) == 1:
        return factors[0]
    return ("times", tuple(factors))


def read_factor(scanner, brackets):
    """Read one factor."""
    scanner.skip()
    if scanner.at_figure():
        return ("number", int(scanner.figures(MOST_FIGURES)))
    if scanner.known is not None and scanner.at_capital():
        return read_known(scanner)
    if brackets >= MOST_BRACKETS:
        scanner.fail()
    if scanner.took("("):
        tree = read_sum(scanner, brackets + 1)
        scanner.take(")")
        return tree
    word = scanner.one_of(WORDS)
    scanner.take("[")
    tree = read_inside(scanner, word, brackets + 1)
    scanner.take("]")
    return tree


def read_known(scanner):
    """Read one of the names that may stand as a factor."""
    begin = scanner.place
    name = scanner.read_name()
    if name not in scanner.known:
        raise BadText(begin + 1)
    return ("name", name)


def read_inside(scanner, word, brackets):
    """Read what stands in the brackets behind a word."""
    if word == "walk":
        steps = powers_text(read_powers(scanner))
        ends = powers_text(read_powers(scanner)) if scanner.took(";") else "1"
        return ("walk", steps, ends)
    if word == "at":
        scanner.skip()
        if scanner.here() == "0":
            scanner.fail()
        factor = int(scanner.figures(FACTOR_FIGURES))
        scanner.take(",")
        offset = int(scanner.figures(OFFSET_FIGURES))
        scanner.take(":")
        return ("at", factor, offset, read_sum(scanner, brackets))
    tree = read_sum(scanner, brackets)
    if word == "fold":
        scanner.take(",")
        return ("fold", tree, read_sum(scanner, brackets))
    return (word, tree)


def fits(tree, brackets):
    """Whether any value is the tree of a text in which at most so many brackets are open."""
    if brackets < 0 or not isinstance(tree, tuple) or len(tree) < 2:
        return False
    kind = tree[0]
    if not isinstance(kind, str):
        return False
    if len(tree) == 2:
        return fits_pair(kind, tree[1], brackets)
    if kind == "walk":
        return brackets > 0 and len(tree) == 3 and is_told(tree[1]) and is_told(tree[2])
    if kind == "fold":
        return len(tree) == 3 and fits(tree[1], brackets - 1) and fits(tree[2], brackets - 1)
    if kind == "at":
        return (len(tree) == 4 and is_within(tree[1], 1, FACTOR_LIMIT)
                and is_within(tree[2], 0, OFFSET_LIMIT) and fits(tree[3], brackets - 1))
    return False


def fits_pair(kind, inner, brackets):
    """Whether (kind, inner) is such a tree."""
    if kind == "number":
        return is_within(inner, 0, NUMBER_LIMIT)
    if kind in PLAIN_WORDS:
        return fits(inner, brackets - 1)
    if not isinstance(inner, tuple):
        return False
    if kind == "times":
        return len(inner) > 1 and all_fit(inner, ("plus", "times"), brackets)
    if kind == "plus":
        terms = [term[1] for term in inner if is_signed(term)]
        return (len(inner) > 0 and len(terms) == len(inner)
                and (len(inner) > 1 or inner[0][0] == -1) and all_fit(terms, ("plus",), brackets))
    return False


def all_fit(trees, bracketed, brackets):
    """Whether all are such trees, those of the bracketed kinds with brackets around them."""
    # One after the other, so that a tree that does not fit ends the search.
    for tree in trees:
        around = isinstance(tree, tuple) and len(tree) > 0 and is_kind(tree[0], bracketed)
        if not fits(tree, brackets - 1 if around else brackets):
            return False
    return True


def is_kind(value, kinds):
    """Whether any value is one of these words."""
    return isinstance(value, str) and value in kinds


def is_signed(term):
    """Whether any value is a pair of a sign and something."""
    return (isinstance(term, tuple) and len(term) == 2 and is_integer(term[0])
            and term[0] in (1, -1))


def is_within(value, least, limit):
    """Whether any value is an integer from least on and below limit."""
    return is_integer(value) and least <= value < limit


def is_told(text):
    """Whether any value is a text as powers_text tells it."""
    if not isinstance(text, str):
        return False
    try:
        powers = powers_of(text)
    except BadText:
        return False
    return powers_text(powers) == text


def text_of_tree(tree):
    """The text of a tree with the fewest brackets."""
    kind = tree[0]
    if kind == "number":
        return str(tree[1])
    if kind == "walk":
        return f"walk[{tree[1]}]" if tree[2] == "1" else f"walk[{tree[1]}; {tree[2]}]"
    if kind == "at":
        return f"at[{tree[1]}, {tree[2]}: {text_of_tree(tree[3])}]"
    if kind == "fold":
        return f"fold[{text_of_tree(tree[1])}, {text_of_tree(tree[2])}]"
    if kind == "times":
        return " * ".join([bracketed_text(factor, ("plus", "times")) for factor in tree[1]])
    if kind == "plus":
        return text_of_terms(tree[1])
    return f"{kind}[{text_of_tree(tree[1])}]"


def text_of_terms(terms):
    """The text of terms with their signs."""
    pieces = []
    for sign, tree in terms:
        if pieces:
            pieces.append(" + " if sign == 1 else " - ")
        elif sign == -1:
            pieces.append("-")
        pieces.append(bracketed_text(tree, ("plus",)))
    return "".join(pieces)


def bracketed_text(tree, kinds):
    """The text of a tree, in brackets if it is of one of these kinds."""
    text = text_of_tree(tree)
    return f"({text})" if tree[0] in kinds else text
