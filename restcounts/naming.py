"""Items: names with expressions in which names of earlier items may stand as factors."""

from restcounts.errors import BadLine, BadText
from restcounts.scanning import CAPITALS, MOST_NAME_SIGNS, NAME_SIGNS, Scanner
from restcounts.trees import read_sum


def is_name(value):
    """Whether any value is a name."""
    if not isinstance(value, str) or not 0 < len(value) <= MOST_NAME_SIGNS:
        return False
    return value[0] in CAPITALS and all([sign in NAME_SIGNS for sign in value[1:]])


def pieces_of(text):
    """A right text in pieces: the names in it, and what stands between them."""
    pieces = []
    begin = 0
    while begin < len(text):
        named = text[begin] in CAPITALS
        end = begin + 1
        # Capital letters stand nowhere but at the beginnings of names.
        while end < len(text) and (text[end] in NAME_SIGNS if named else text[end] not in CAPITALS):
            end = end + 1
        pieces.append(text[begin:end])
        begin = end
    return pieces


def replaced(text, texts):
    """The text with each name replaced by the text that it has among texts, in brackets."""
    return "".join([f"({texts[piece]})" if piece in texts else piece for piece in pieces_of(text)])


def renamed(text, name, new):
    """The text with a new name in the places of a name."""
    return "".join([new if piece == name else piece for piece in pieces_of(text)])


def texts_of(items):
    """For each name the text of its count, in which no names stand."""
    texts = {}
    for name, expression in items:
        texts[name] = replaced(expression, texts)
    return texts


def names_ahead(names, name):
    """The names that may stand in the expression of this name."""
    return names[:names.index(name)] if name in names else names


def read_expression(scanner, known):
    """Read an expression, in which these names may stand, up to the end of the text."""
    scanner.known = known
    read_sum(scanner, 0)
    scanner.end()


def read_line(line, names, seen):
    """The name and the expression of a line; seen are the names of the lines ahead of it."""
    scanner = Scanner(line)
    scanner.skip()
    begin = scanner.place
    name = scanner.read_name()
    if name in seen:
        raise BadText(begin + 1)
    scanner.take("=")
    begin = scanner.place
    read_expression(scanner, names_ahead(names, name))
    return name, line[begin:].strip(" ")


def with_lines(items, text):
    """The items behind the lines of a text; BadLine for the first wrong line."""
    if not isinstance(text, str):
        raise BadLine(0, 0)
    expressions = {name: expression for name, expression in items}
    names = list(expressions)
    seen = {}
    for at, line in enumerate(text.split("\n")):
        if line.strip(" ") == "":
            continue
        try:
            name, expression = read_line(line, names, seen)
        except BadText as error:
            raise BadLine(at + 1, error.column) from None
        if name not in expressions:
            names.append(name)
        expressions[name] = expression
        seen[name] = True
    return tuple([(name, expressions[name]) for name in names])


def with_item(items, name, expression):
    """The items behind one of them; BadText for a wrong expression."""
    if not isinstance(expression, str):
        raise BadText(0)
    names = [other for other, _ in items]
    read_expression(Scanner(expression), names_ahead(names, name))
    item = (name, expression.strip(" "))
    if name not in names:
        return items + (item,)
    return tuple([item if old[0] == name else old for old in items])
