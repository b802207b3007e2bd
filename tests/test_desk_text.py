"""[79], [80], [84] the texts of desks, promises and questions, and the columns of what is wrong in them."""

import random
import re
import unittest

from grammar import LINES, column_of, promises
from plain_counts import MODULI, NO_MODULI
from restcounts.desk import Desk
from restcounts.errors import BadLine, BadName, BadNumber, BadText, CountError, NoName, TooMany
from restcounts.moduli import prime_power

NO_TEXTS = (None, 5, True, b"A = 1", ["A = 1"], ("A = 1",), {"A": "1"}, 2.0)
LINE = " Dab1 = - 2 * ( A - sum[ Ab ] ) * walk[ x + x^-1 ; 1 ] + at[ 12, 3: A0 ] - fold[Ab,next[ 7 ]] "
AHEAD = ("A", "Ab", "A0")


def line_column(line, ahead):
    """The column of what is wrong in a line behind lines with these names, None if nothing is."""
    told = column_of(LINES, "LINE", line)
    places = [] if told is None else [told]
    # The head of the line is a name of its own; all others must stand ahead.
    for at, found in enumerate(re.finditer("[A-Z][a-z0-9]{0,19}", line)):
        if (found.group() in ahead) == (at == 0):
            places.append(found.start() + 1)
    return min(places, default=None)


def error_of(called, *values):
    """The class and the fields of the error that a call raises; None if it raises none."""
    try:
        called(*values)
    except CountError as error:
        return (type(error), *vars(error).values())
    return None


def desk_with_ahead(m=2):
    return Desk(m, "A = 1\nAb = walk[1 + x]\nA0 = 3\nLast = 5")


class Lines(unittest.TestCase):

    def check(self, line):
        told = line_column(line, AHEAD)
        expected = None if told is None else (BadLine, 5, told)
        text = "A = 1\nAb = walk[1 + x]\n  \nA0 = 3\n" + line
        self.assertEqual(error_of(Desk, 2, text), expected, line)
        self.assertEqual(error_of(Desk, 2, text + "\nZ = 1\n"), expected, line)

    def test_each_form(self):
        for text, lines in (
                ("", ""), ("\n", ""), ("   \n \n\n  ", ""), ("A=1", "A = 1\n"), ("A=1\n", "A = 1\n"),
                ("  A  =  1  +  2  ", "A = 1  +  2\n"), ("A=1\nB=A", "A = 1\nB = A\n"),
                ("A = 1\n\n  \nB = A*A\nC = B + A\n", "A = 1\nB = A*A\nC = B + A\n"),
                ("A = walk[x+x^-1]\nA1=sum[A]\nAa = fold[A,A1]-at[2,3:A]",
                 "A = walk[x+x^-1]\nA1 = sum[A]\nAa = fold[A,A1]-at[2,3:A]\n"),
                ("A" + "b" * 19 + " = 1\nB = A" + "b" * 19, "A" + "b" * 19 + " = 1\nB = A" + "b" * 19 + "\n"),
                ("B = 1\nA = B", "B = 1\nA = B\n"), ("A = (1)\n" "B = -A", "A = (1)\nB = -A\n")):
            self.assertEqual(Desk(4, text).lines(), lines)
            self.assertEqual(Desk(4, lines).lines(), lines)

    def test_wrong_lines(self):
        for text, line, column in (
                ("A", 1, 2), ("A =", 1, 4), ("A = ", 1, 5), ("A = 1 +", 1, 8), ("A = 1 2", 1, 7), ("= 1", 1, 1),
                ("a = 1", 1, 1), ("A1b = 1\nA$ = 1", 2, 2), ("A == 1", 1, 4), ("1 = 1", 1, 1), ("A = A", 1, 5),
                ("A = B\nB = 1", 1, 5), ("A = 1\nB = A + C", 2, 9), ("A = 1\nB = Ab", 2, 5), ("Ab = 1\nB = A", 2, 5),
                ("Ab = 1\nB = A2", 2, 5), ("A = 1\nA = 2", 2, 1), ("A = 1\n  A", 2, 3), ("A = 1\n\n A = $", 3, 2),
                ("A = 1\nB = 2\nA = 1\nA = 2", 3, 1), ("A = 1\n \nB = 1 A", 3, 7), ("A = 1\nB = A A", 2, 7),
                ("A = 1\nB = A2$", 2, 5), ("A = 1\nB = AC", 2, 6), ("A = 1\nB = CA", 2, 5), ("A\t= 1", 1, 2),
                ("A = 1\t", 1, 6), ("A = 1\r\nB = 1", 1, 6), ("A = 1 = 2", 1, 7), ("A = walk[B]", 1, 10),
                ("A = walk[x; A]", 1, 13), ("A = 1\nB = sumA", 2, 8), ("A = 1\nB = at[A, 0: 1]", 2, 8),
                ("A" + "b" * 20 + " = 1", 1, 21), ("A" + "b" * 19 + " = 1\nB = A" + "b" * 20, 2, 25),
                ("B = A" + "b" * 20, 1, 5), ("A = 1;B = 2", 1, 6), ("A = 1\nB = 1 + A 2 + C", 2, 11),
                ("A = " + "1" * 41, 1, 45), ("A = 01", 1, 6), ("\nA = (\n1)", 2, 6), ("A B = 1", 1, 3)):
            self.assertEqual(error_of(Desk, 2, text), (BadLine, line, column), text)

    def test_forty_brackets(self):
        # Names may stand where no bracket can be opened any more.
        text = "A = 1\nB = " + "(" * 40 + "A" + ")" * 40
        self.assertEqual(Desk(2, text).names(), ("A", "B"))
        text = "A = 1\nB = " + "(" * 40 + "sum[A]" + ")" * 40
        self.assertEqual(error_of(Desk, 2, text), (BadLine, 2, 45))
        text = "A = 1\nB = " + "(" * 40 + "C" + ")" * 40
        self.assertEqual(error_of(Desk, 2, text), (BadLine, 2, 45))

    def test_cut_anywhere(self):
        for end in range(1, len(LINE) + 1):
            if LINE[:end].strip():
                self.check(LINE[:end])

    def test_characters_put_in_left_out_or_exchanged(self):
        chance = random.Random(801)
        signs = " ()[]=;:,+-*^\t_.$xyzabwsnf0179ABL" + "\u00e9\u0660"
        for _ in range(700):
            line = LINE
            for _ in range(chance.randrange(1, 3)):
                place = chance.randrange(len(line))
                kind = chance.randrange(3)
                put = "" if kind == 0 else chance.choice(signs)
                line = line[:place] + put + line[place + (kind != 1):]
            self.check(line)

    def test_words_put_in_left_out_or_exchanged(self):
        chance = random.Random(802)
        pieces = re.findall("[A-Z][a-z0-9]*|[a-z]+|[0-9]+|[^ ]", LINE)
        words = ["A", "Ab", "A0", "Ax", "B", "sum[", "]", "(", ")", "+", "*", "-", "1", "23", "=", "walk[", "x"]
        for _ in range(700):
            row = list(pieces)
            for _ in range(chance.randrange(1, 3)):
                place = chance.randrange(len(row))
                kind = chance.randrange(3)
                row[place:place + (kind != 1)] = [] if kind == 0 else [chance.choice(words)]
            self.check("".join(piece + " " * (chance.random() < 0.5) for piece in row))

    def test_what_is_no_modulus_or_no_text(self):
        for m in NO_MODULI:
            self.assertEqual(error_of(Desk, m, None), (BadNumber, "modulus", m))
            self.assertEqual(error_of(Desk, m, "$"), (BadNumber, "modulus", m))
        for text in NO_TEXTS:
            self.assertEqual(error_of(Desk, 4, text), (BadLine, 0, 0))
            self.assertEqual(error_of(Desk(4).put, text), (BadLine, 0, 0))
            self.assertEqual(error_of(Desk(4).define, "A", text), (BadText, 0))
        self.assertEqual(Desk(4).lines(), "")
        self.assertEqual(Desk(4, text="A = 1").lines(), "A = 1\n")


class PuttingLines(unittest.TestCase):

    def test_places_behind_the_putting(self):
        for text, told in (
                ("A0 = A + Ab", None), ("A0 = Last", (1, 6)), ("Ab = A0", (1, 6)), ("A = A", (1, 5)), ("A = Ab", (1, 5)),
                ("New = Last", None), ("New = Last\nNew2 = New", None), ("New2 = New\nNew = 1", (1, 8)),
                ("New = 1\nLast = New", (2, 8)), ("Last = A0\nA0 = Ab\nAb = A", None), ("New = New", (1, 7)),
                ("A = 2\nAb = A\nA = 3", (3, 1)), ("New = 1\nNew = $", (2, 1)), ("\n\nAb = A +", (3, 9)),
                ("X = Y\nA = $", (1, 5)), ("A = $\nX = Y", (1, 5))):
            desk = desk_with_ahead()
            before = desk.lines()
            expected = None if told is None else (BadLine, *told)
            self.assertEqual(error_of(desk.put, text), expected, text)
            if told is not None:
                self.assertEqual(desk.lines(), before)

    def test_define(self):
        for name, expression, column in (
                ("A0", "A + Ab", None), ("A0", " A0", 2), ("A0", "1 + Last", 5), ("New", "Last", None), ("New", "New", 1),
                ("New", "", 1), ("New", "  ", 3), ("New", "1 +", 4), ("New", "1\n", 2), ("New", "\n1", 1),
                ("New", "A = 1", 3), ("New", "A Q", 3), ("New", "Q $", 1), ("New", "Ab$", 3), ("New", "Abc$", 1),
                ("A", "2 * A", 5), ("Ab", "A * A", None), ("A" + "z" * 19, "1", None)):
            desk = desk_with_ahead()
            expected = None if column is None else (BadText, column)
            self.assertEqual(error_of(desk.define, name, expression), expected, (name, expression))

    def test_what_is_no_name(self):
        desk = desk_with_ahead()
        for name in ("", "a", "1", "A ", " A", "AB", "A_", "A-b", "A" + "z" * 20, "\u0391", "A\u00e9", "A\n", "Ab$",
                     None, 5, True, b"A", ("A",), ["A"], {"A": 1}):
            self.assertEqual(error_of(desk.define, name, None), (BadName, name))
            self.assertEqual(error_of(desk.define, name, "$"), (BadName, name))
            self.assertEqual(error_of(desk.rename, "A", name), (BadName, name))
            self.assertEqual(error_of(desk.rename, "Nobody", name), (BadName, name))
            for called in (desk.get, desk.drop):
                self.assertEqual(error_of(called, name), (NoName, name))
            self.assertEqual(error_of(desk.rename, name, "New"), (NoName, name))
        self.assertEqual(desk.lines(), desk_with_ahead().lines())


PROMISES = (" Ab alike A0 ", "Ab never 1", " A0  follows ", "A  divided  by 1 ", "always x < x + 1",
            " always( A at x is 1 or not Ab at 2*y is 0 )", "always for all x: there is y:(x = y)")
QUESTIONS = (" Ab at 1203 ", "Ab apart A0", " A first 1", "A many 1 below 100 ", "A0  rows ", "A at 0")


class Texts(unittest.TestCase):

    def checks(self, m):
        """The desk, the grammar, and pairs of what reads a text and of where the grammar begins."""
        desk = desk_with_ahead(m)
        p, k = prime_power(m)
        return promises(m, k), ((desk.kept, "PROMISE", PROMISES), (desk.ask, "QUESTION", QUESTIONS))

    def check(self, grammar, called, begin, text):
        told = column_of(grammar, begin, text)
        found = error_of(called, text)
        if told is None:
            self.assertTrue(found is None or found[0] in (NoName, TooMany), (text, found))
        else:
            self.assertEqual(found, (BadText, told), text)

    def test_each_form_is_right(self):
        grammar, readings = self.checks(2)
        for called, begin, texts in readings:
            for text in texts:
                self.assertIsNone(column_of(grammar, begin, text), text)
                self.assertIsNone(error_of(called, text), text)

    def test_cut_anywhere(self):
        grammar, readings = self.checks(2)
        for called, begin, texts in readings:
            for text in texts:
                for end in range(len(text)):
                    self.check(grammar, called, begin, text[:end])
                    self.check(grammar, called, begin, text[:end] + " " + text[end:])
                    self.check(grammar, called, begin, text[:end] + text[end + 1:])

    def test_characters_put_in_or_exchanged(self):
        chance = random.Random(803)
        grammar, readings = self.checks(2)
        signs = " ()=:,\t\n_$axyabdfilmnrtw0129AL"
        for called, begin, texts in readings:
            for _ in range(500):
                text = chance.choice(texts)
                place = chance.randrange(len(text))
                text = text[:place] + chance.choice(signs) + text[place + chance.randrange(2):]
                self.check(grammar, called, begin, text)

    def test_words_of_others(self):
        chance = random.Random(804)
        grammar, readings = self.checks(2)
        words = ("A Ab alike never follows divided by always at apart first many below rows 0 1 2 x = ( )").split()
        for called, begin, _ in readings:
            for _ in range(700):
                row = [chance.choice(("A", "Ab", "always"))]
                row += [chance.choice(words) for _ in range(chance.randrange(5))]
                self.check(grammar, called, begin, "".join(word + " " * (chance.random() < 0.9) for word in row))

    def test_greatest_numbers(self):
        for m in MODULI:
            p, k = prime_power(m)
            desk = Desk(m, "A = 1")
            for called, text, greatest in ((desk.kept, "A never ", m - 1), (desk.kept, "A divided by ", k),
                                           (desk.ask, "A first ", m - 1), (desk.ask, "A many ", m - 1)):
                more = " below 5" if "many" in text else ""
                for number in (0, 1, greatest):
                    self.assertIsNone(error_of(called, text + str(number) + more), (m, text, number))
                for number in [*range(greatest + 1, 40), 99, 100, 105, 1000, 10 ** 60]:
                    # The number is wrong at the first digit with which it is too large.
                    many = min(many for many in range(1, 62) if int(str(number)[:many]) > greatest)
                    expected = (BadText, len(text) + many)
                    self.assertEqual(error_of(called, text + str(number) + more), expected, (m, text, number))
                for number in ("00", "01", "007"):
                    self.assertEqual(error_of(called, text + number + more), (BadText, len(text) + 2))
                for number in ("", "-1", "x", "+1", " "):
                    self.assertEqual(error_of(called, text + number + more + "$")[0], BadText)
        desk = Desk(2, "A = 1")
        self.assertEqual(desk.ask("A at " + "9" * 300), "1")
        self.assertEqual(error_of(desk.ask, "A at 00"), (BadText, 7))
        self.assertEqual(error_of(desk.ask, "A many 1 below 00"), (BadText, 17))

    def test_columns_within_a_statement(self):
        desk = desk_with_ahead()
        for text, column in (("always", 7), ("always ", 8), ("always x", 9), ("alwaysx = x", 7), ("always(x = x", 13),
                             ("  always x = x)", 15), ("always 1 = 1 never", 14), ("always not(1 = 1", 17),
                             ("always " + "(" * 41, 48), ("always A at x is 1234567", 24), ("all", 3), ("alwayz", 6)):
            self.assertEqual(error_of(desk.kept, text), (BadText, column), text)
            self.assertEqual(error_of(desk.keep, text), (BadText, column), text)

    def test_what_is_no_text(self):
        desk = desk_with_ahead()
        for text in NO_TEXTS:
            for called in (desk.keep, desk.kept, desk.ask):
                self.assertEqual(error_of(called, text), (BadText, 0))
            self.assertEqual(error_of(desk.release, text), (NoName, text))

    def test_first_error(self):
        desk = desk_with_ahead()
        for text, error in (
                ("X alike Y", (NoName, "X")), ("A alike Y", (NoName, "Y")), ("X never 2", (BadText, 9)),
                ("X never 1", (NoName, "X")), ("X follows", (NoName, "X")), ("X divided by 1", (NoName, "X")),
                ("X divided by 2", (BadText, 14)), ("always a = b and c = d and X at 1 is 1", (TooMany, "letters", 3)),
                ("always a = b and c = d and X at 1 is 1 $", (BadText, 40)), ("always A at x is 1 or Y at x is 1", (NoName, "Y")),
                ("always Y at x is 1 or X at x is 1", (NoName, "Y"))):
            self.assertEqual(error_of(desk.kept, text), error, text)
            self.assertEqual(error_of(desk.keep, text), error, text)
        for text, error in (
                ("X at 1", (NoName, "X")), ("X apart Y", (NoName, "X")), ("A apart Y", (NoName, "Y")),
                ("X first 1", (NoName, "X")), ("X first 2", (BadText, 9)), ("X many 1 below 1", (NoName, "X")),
                (f"X many 1 below {10 ** 61}", (NoName, "X")), ("X rows", (NoName, "X")), ("X rows 1", (BadText, 8))):
            self.assertEqual(error_of(desk.ask, text), error, text)


if __name__ == "__main__":
    unittest.main()
