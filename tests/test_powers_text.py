"""[12] texts of sums of powers."""

import random
import unittest

from grammar import POWERS, column_of
from restcounts.errors import BadText
from restcounts.powers import Powers, powers_of, powers_text

BIG = 98765432109876543210
X, Y, Z = (1, 0, 0), (0, 1, 0), (0, 0, 1)
NONE = (0, 0, 0)


def column(text):
    """The column of the error that a text raises, None if it raises none."""
    try:
        powers_of(text)
    except BadText as error:
        return error.column
    return None


def random_powers(chance):
    return Powers([([chance.choice((1, 1, BIG)) * chance.randrange(-2, 3) for _ in range(3)],
                    chance.choice((1, 1, 1, BIG)) * chance.choice((1, -1, 2, -12)))
                   for _ in range(chance.randrange(6))])


class Texts(unittest.TestCase):

    def test_each_form(self):
        for text, terms in (
                ("0", []), ("7", [(NONE, 7)]), ("-7", [(NONE, -7)]), ("x", [(X, 1)]), ("y", [(Y, 1)]),
                ("z", [(Z, 1)]), ("-z", [(Z, -1)]), ("x^0", [(NONE, 1)]), ("x^-0", [(NONE, 1)]),
                ("y^12", [((0, 12, 0), 1)]), ("z^-3", [((0, 0, -3), 1)]), ("2*x", [(X, 2)]),
                ("x*2", [(X, 2)]), ("x*x", [((2, 0, 0), 1)]), ("x^2*y*x^-2", [(Y, 1)]),
                ("2*3*4", [(NONE, 24)]), ("0*x", []), ("x-x", []), ("-x+x", []), ("x + y", [(X, 1), (Y, 1)]),
                ("x-y-z+1", [(X, 1), (Y, -1), (Z, -1), (NONE, 1)]), ("1+1", [(NONE, 2)]),
                ("x^%d" % BIG, [((BIG, 0, 0), 1)]), ("%d*y" % BIG, [(Y, BIG)])):
            self.assertEqual(powers_of(text), Powers(terms), text)
            self.assertIs(type(powers_of(text)), Powers)

    def test_spaces_wherever_they_may_stand(self):
        pieces = ("-", "3", "*", "x", "^", "-", "2", "*", "y", "+", "z", "^", "4", "-", "5")
        wanted = Powers([((-2, 1, 0), -3), ((0, 0, 4), 1), (NONE, -5)])
        self.assertEqual(powers_of("".join(pieces)), wanted)
        for spaces in (" ", "   "):
            self.assertEqual(powers_of(spaces + spaces.join(pieces) + spaces), wanted)
            for at in range(len(pieces) + 1):
                self.assertEqual(powers_of("".join(pieces[:at]) + spaces + "".join(pieces[at:])), wanted)

    def test_text_of_each_kind_of_term(self):
        for terms, text in (
                ([], "0"), ([(NONE, 1)], "1"), ([(NONE, -1)], "-1"), ([(X, 1)], "x"), ([(X, -1)], "-x"),
                ([(X, 2)], "2*x"), ([(X, -2)], "-2*x"), ([((2, 0, 0), 1)], "x^2"), ([((-1, 0, 0), 1)], "x^-1"),
                ([((1, -1, 3), -7)], "-7*x*y^-1*z^3"), ([((0, 1, 1), 1)], "y*z"),
                ([(X, 1), (Y, 1), (Z, 1), (NONE, 1)], "1 + z + y + x"),
                ([(X, -3), (Y, -1), (NONE, -2)], "-2 - y - 3*x"),
                ([((-1, 0, 0), 1), ((1, 0, 0), -1), ((-1, 5, 0), 2)], "x^-1 + 2*x^-1*y^5 - x"),
                ([((BIG, 0, -BIG), -BIG)], "-%d*x^%d*z^-%d" % (BIG, BIG, BIG))):
            self.assertEqual(powers_text(Powers(terms)), text)
            self.assertEqual(powers_of(text), Powers(terms))

    def test_there_and_back(self):
        chance = random.Random(60)
        for _ in range(500):
            powers = random_powers(chance)
            text = powers_text(powers)
            self.assertIsNone(column_of(POWERS, "POWERS", text))
            self.assertEqual(powers_of(text), powers)
            self.assertEqual(powers_text(powers_of(text.replace(" ", ""))), text)

    def test_numbers_with_many_figures(self):
        for figures in (400, 4300, 6000):
            number = 10 ** (figures - 1) + 123
            # Python does not write so long a number, so the text is put together.
            written = "1" + "0" * (figures - 4) + "123"
            powers = powers_of(f"{written}*x^-{written} - {written}")
            self.assertEqual(powers, Powers([((-number, 0, 0), number), (NONE, -number)]))
            self.assertEqual(powers_text(powers), f"{written}*x^-{written} - {written}")


class Errors(unittest.TestCase):

    def test_columns(self):
        for text, wanted in (
                ("", 1), ("   ", 4), ("-", 2), (" - ", 4), ("+x", 1), ("--x", 2), ("x +", 4), ("x + + y", 5),
                ("x - - y", 5), ("x + -y", 5), ("01", 2), ("00", 2), ("1 2", 3), ("x y", 3), ("2x", 2),
                ("x2", 2), ("xy", 2), ("x^", 3), ("x^-", 4), ("x^ - ", 6), ("x^--1", 4), ("x^+1", 3), ("x^y", 3),
                ("x^01", 4), ("x^2^3", 4), ("2^3", 2), ("x*", 3), ("x**y", 3), ("x*-1", 3), ("*x", 1), ("(x)", 1),
                ("x)", 2), ("x;1", 2), ("w", 1), ("X", 1), ("x\n", 2), ("\tx", 1), ("x\u00a0", 2), ("\u0663", 1),
                ("x^\u00b2", 3), ("1_000", 2), ("1.5", 2), ("1e3", 2), ("x + 1" + " " * 3 + "2", 9), ("-0 1", 4)):
            self.assertEqual(column(text), wanted, repr(text))

    def test_every_cut_of_a_right_text(self):
        text = " - 12 * x ^ - 30 * y + z^4*5 - 0 + x*y*z "
        self.assertIsNone(column(text))
        for end in range(len(text)):
            self.assertEqual(column(text[:end]), column_of(POWERS, "POWERS", text[:end]), text[:end])

    def test_against_all_readings_of_the_grammar(self):
        chance = random.Random(61)
        signs = "x y z 0 1 2 9 + - * ^ ( ] ; w".split() + [" "]
        kinds = {True: 0, False: 0}
        for _ in range(1500):
            text = powers_text(Powers([([chance.randrange(-2, 3) for _ in range(3)], chance.randrange(-9, 30))
                                       for _ in range(chance.randrange(1, 4))]))
            for _ in range(chance.randrange(3)):
                at = chance.randrange(len(text) + 1)
                text = chance.choice((text[:at] + chance.choice(signs) + text[at:],
                                      text[:at] + chance.choice(signs) + text[at + 1:],
                                      text[:at] + text[at + 1:], text[:at]))
            wanted = column_of(POWERS, "POWERS", text)
            self.assertEqual(column(text), wanted, repr(text))
            kinds[wanted is None] += 1
        self.assertGreater(min(kinds.values()), 300)


if __name__ == "__main__":
    unittest.main()
