"""Texts of promises and of questions, read as (kind, names, what else they tell)."""

from restcounts.errors import BadText
from restcounts.moduli import prime_power
from restcounts.scanning import Scanner
from restcounts.sentences import names_in, read_statement
from restcounts.statements import check_letters

PROMISE_WORDS = ("alike", "never", "follows", "divided")
QUESTION_WORDS = ("at", "apart", "first", "many", "rows")


def scanner_of(text):
    """A scanner of any value, up to its first character; BadText for what is no string."""
    if not isinstance(text, str):
        raise BadText(0)
    scanner = Scanner(text)
    scanner.skip()
    return scanner


def read_promise(text, m):
    """The kind of a promise, the names in it, and its number or its statement."""
    scanner = scanner_of(text)
    if not scanner.at_capital():
        scanner.word("always")
        tree = read_statement(scanner, 0)
        scanner.end()
        check_letters(tree)
        return "always", tuple(names_in(tree)), tree
    names = (scanner.read_name(),)
    scanner.begin()
    kind = scanner.one_of(PROMISE_WORDS)
    number = None
    if kind == "alike":
        names = names + (next_name(scanner),)
    elif kind == "never":
        number = next_number(scanner, m - 1)
    elif kind == "divided":
        next_word(scanner, "by")
        _, k = prime_power(m)
        number = next_number(scanner, k)
    scanner.end()
    return kind, names, number


def read_question(text, m):
    """The kind of a question, the names in it, and its numbers."""
    scanner = scanner_of(text)
    names = (scanner.read_name(),)
    scanner.begin()
    kind = scanner.one_of(QUESTION_WORDS)
    numbers = ()
    if kind == "apart":
        names = names + (next_name(scanner),)
    elif kind == "at":
        numbers = (next_number(scanner, None),)
    elif kind in ("first", "many"):
        numbers = (next_number(scanner, m - 1),)
    if kind == "many":
        next_word(scanner, "below")
        numbers = numbers + (next_number(scanner, None),)
    scanner.end()
    return kind, names, numbers


def next_name(scanner):
    """Read spaces and a name."""
    scanner.begin()
    return scanner.read_name()


def next_word(scanner, word):
    """Read spaces and this word."""
    scanner.begin()
    scanner.word(word)


def next_number(scanner, greatest):
    """Read spaces and a number up to the greatest one, any number if it is None."""
    scanner.begin()
    return int(scanner.figures(None, greatest))
