"""[74], [76] texts of statements."""

import random
import time
import unittest

from grammar import STATEMENTS, column_of
from restcounts.errors import BadText, TooMany
from restcounts.statements import Statement

LONG = (" for all x , y : ( Ab1 at 2 * x + 13 is 0 or not x < y+1 ) and there is z:z = 4*z+x"
        " or(not(B at x is 120 and 0=y))")
WORDS = ["or", "and", "at", "is", "not", "for", "all", "there", "x", "y", "0", "7", "12", "A", "Bc2"]
SIGNS = list("()=<+*:,")


def column(text):
    """The column of the error that a text raises, None if it raises none."""
    try:
        Statement(text)
    except BadText as error:
        return error.column
    except TooMany:
        return None
    return None


class Letters(unittest.TestCase):

    def test_text_and_letters(self):
        for text, letters in (
                ("x = y", ("x", "y")), ("y<x", ("x", "y")), ("1 = 2", ()), ("for all x: x = y", ("y",)),
                ("x = 1 and for all x: x = x", ("x",)), ("for all x: x = 1 or x = 2", ()),
                ("(for all x: x = 1) or x = 2", ("x",)), ("there is x, x: x = x", ()),
                ("for all x: there is x: z + 0 < 4 * x", ("z",)), ("A at q is 3", ("q",)),
                ("not not a = 3 * b + c", ("a", "b", "c")), (" z = z ", ("z",)), ("for all x: 1 = 1", ()),
                ("there is z: for all y: z = y or x = 0", ("x",)), ("A at 5 is 3", ())):
            statement = Statement(text)
            self.assertEqual((statement.text, statement.letters), (text, letters))

    def test_four_letters(self):
        for text in ("a = b and c = d", "for all a, b, c, d: 1 = 1", "for all a: for all b: c = d",
                     "a + b + c = d", "A at a + b is 1 or A at c + d is 2"):
            with self.assertRaises(TooMany) as caught:
                Statement(text)
            self.assertEqual((caught.exception.what, caught.exception.limit), ("letters", 3))
        Statement("for all a, b, c: a = b and b = c and for all a, b: a = c")
        # A wrong text comes first.
        self.assertEqual(column("a = b and c = d and"), 20)
        with self.assertRaises(BadText):
            Statement("a = b and c = d )")


class Texts(unittest.TestCase):

    def test_letters_that_begin_words(self):
        for text in ("f = n", "t < o", "n = a", "a = i and t = t", "o + n < 4*f", "for all o:o=n or n=o",
                     "there is t , t : t = 0", "not n = 0", "A at a is 0", "A at i is 0", "there is i:i=0and 0=0"):
            column(text)
            self.assertEqual(column(text), column_of(STATEMENTS, "TEXT", text), text)
        for text, place in (("fo = n", 3), ("no = n", 3), ("nx = 1", 2), ("th = 1", 3), ("fa = 1", 2),
                            ("f or = n", 3), ("notx = 1", 4), ("not x = 1 orx = 1", 13), ("forall x: 1 = 1", 4),
                            ("for allx: 1 = 1", 8), ("there isx: 1 = 1", 9), ("Aat x is 1", 5), ("A atx is 1", 5),
                            ("A at xis 1", 7), ("A at x is1", 10), ("A at 1is 1", 7), ("x = 1or x = 1", 6),
                            ("x = yor x = 1", 6), ("x = 1 andx = 1", 10), ("x = 5 * y", 7), ("x = 0 * y", 7),
                            ("x = 12 * y", 8), ("x = 4 * 3", 9), ("x = 3 y", 7), ("x = x * 3", 7), ("x == 1", 4)):
            self.assertEqual(column(text), place, text)
            self.assertEqual(column_of(STATEMENTS, "TEXT", text), place, text)

    def test_signs_need_no_spaces(self):
        for text in ("(x=1)and(y=2)or(not(x=y))", "for all x,y:(x=1)", "not(x=1)", "there is x:not(x<2*x+1)or(x=1)",
                     "A at x is 1 and(x=1)", "((x=1))", "(for all x:x=1)or x=2"):
            self.assertEqual(column(text), None, text)
            self.assertEqual(column_of(STATEMENTS, "TEXT", text), None, text)

    def test_cut_anywhere(self):
        for end in range(len(LONG)):
            text = LONG[:end]
            self.assertEqual(column(text), column_of(STATEMENTS, "TEXT", text), text)
        self.assertEqual(column(LONG), None)

    def test_spaces_wherever_they_may_stand(self):
        for place in range(len(LONG) + 1):
            text = LONG[:place] + "  " + LONG[place:]
            self.assertEqual(column(text), column_of(STATEMENTS, "TEXT", text), text)
        for place, sign in enumerate(LONG):
            if sign == " ":
                text = LONG[:place] + LONG[place + 1:]
                self.assertEqual(column(text), column_of(STATEMENTS, "TEXT", text), text)

    def test_characters_put_in_left_out_or_exchanged(self):
        chance = random.Random(701)
        signs = "()=<+*:,-; \n\t%_.xotfnaizAZ0179" + "\u00e9\u0660\u0391"
        for _ in range(1200):
            place = chance.randrange(len(LONG))
            kind = chance.randrange(3)
            put = "" if kind == 0 else chance.choice(signs)
            text = LONG[:place] + put + LONG[place + (kind != 1):]
            self.assertEqual(column(text), column_of(STATEMENTS, "TEXT", text), text)

    def test_words_put_in_left_out_or_exchanged(self):
        chance = random.Random(702)
        pieces = LONG.replace("(", " ( ").replace(")", " ) ").replace(":", " : ").replace("=", " = ").split()
        for _ in range(1200):
            row = list(pieces)
            for _ in range(chance.randrange(1, 3)):
                place = chance.randrange(len(row))
                kind = chance.randrange(3)
                put = [] if kind == 0 else [chance.choice(WORDS + SIGNS)]
                row[place:place + (kind != 1)] = put
            text = "".join(piece + " " * (chance.random() < 0.9) for piece in row)
            self.assertEqual(column(text), column_of(STATEMENTS, "TEXT", text), text)

    def test_random_rows_of_words(self):
        chance = random.Random(703)
        for _ in range(1500):
            begun = chance.choice(["", "for all x :", "A at x is 1", "x = y", "not", "( 1 < x", "there is x ,"])
            row = [begun] + [chance.choice(WORDS + SIGNS) for _ in range(chance.randrange(6))]
            text = "".join(piece + " " * (chance.random() < 0.8) for piece in row)
            self.assertEqual(column(text), column_of(STATEMENTS, "TEXT", text), text)


class Limits(unittest.TestCase):

    def test_figures(self):
        for text, place in (("x = 123456", None), ("x = 1234567", 11), ("123456 = x", None), ("1234567 = x", 7),
                            ("A at x is 123456", None), ("A at x is 1234567", 17), ("x = 01", 6), ("x = 00", 6),
                            ("A at x is 00", 12), ("A at 0 is 0", None), ("A at x is -1", 11), ("", 1), ("   ", 4),
                            ("x", 2), ("A", 2), ("a at x is 1", 3), ("A1 at x is 1", None), ("AB at x is 1", 2)):
            self.assertEqual(column(text), place, text)
            self.assertEqual(column_of(STATEMENTS, "TEXT", text), place, text)

    def test_signs_of_names(self):
        for many in (1, 2, 19, 20):
            self.assertEqual(column("A" + "b" * (many - 1) + " at x is 1"), None)
        for many in (21, 22, 40):
            text = "A" + "b" * (many - 1) + " at x is 1"
            self.assertEqual(column(text), 21)
            self.assertEqual(column_of(STATEMENTS, "TEXT", text), 21)
        self.assertEqual(column("A" + "9" * 20 + " at x is 1"), 21)

    def test_forty_open(self):
        self.assertEqual(column("(" * 40 + "x = 1" + ")" * 40), None)
        self.assertEqual(column("(" * 41 + "x = 1" + ")" * 41), 41)
        self.assertEqual(column("not " * 40 + "x = 1"), None)
        self.assertEqual(column("not " * 41 + "x = 1"), 4 * 40 + 2)
        self.assertEqual(column("for all x: " * 40 + "x = 1"), None)
        self.assertEqual(column("for all x: " * 41 + "x = 1"), 11 * 40 + 2)
        self.assertEqual(column("there is x: " * 40 + "x = 1"), None)
        self.assertEqual(column("there is x: " * 41 + "x = 1"), 12 * 40 + 2)
        mixed = "(not for all x: there is y: " * 10
        for last, place in (("x = 1" + ")" * 10, None), ("n = 1" + ")" * 10, None), ("f = t" + ")" * 10, None),
                            ("(x = 1)" + ")" * 10, len(mixed) + 1), ("not x = 1" + ")" * 10, len(mixed) + 2),
                            ("for all x: 1 = 1" + ")" * 10, len(mixed) + 2),
                            ("there is x: 1 = 1" + ")" * 10, len(mixed) + 2)):
            self.assertEqual(column(mixed + last), place, last)

    def test_what_is_no_longer_open(self):
        # A not is open up to the end of its part, a bracket up to its end.
        text = " and ".join(["not (not x = 1)"] * 50)
        self.assertEqual(column(text), None)
        inner = "(" * 38
        self.assertEqual(column(inner + "not x = 1 and not (x = 1) or not x = 2" + ")" * 38), None)
        self.assertEqual(column(inner + "not not x = 1 and not not x = 1" + ")" * 38), None)
        self.assertEqual(column(inner + "not not not x = 1" + ")" * 38), 38 + 10)
        # A for all is open up to the end of its statement.
        text = inner + "for all x: x = 1 and not x = 2 or not x = 1 or not not x = 1" + ")" * 38
        self.assertEqual(column(text), 38 + len("for all x: x = 1 and not x = 2 or not x = 1 or not n") + 1)
        text = inner + "(for all x: x = 1) and not not x = 2" + ")" * 38
        self.assertEqual(column(text), None)

    def test_long_texts(self):
        begun = time.time()
        text = " or ".join(["x = y"] * 220)
        self.assertLess(len(text), 2000)
        self.assertEqual(column(text), None)
        self.assertEqual(column("x = " + "1 + " * 480 + "y"), None)
        self.assertLess(time.time() - begun, 2)


if __name__ == "__main__":
    unittest.main()
