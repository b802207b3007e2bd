"""[14], [15], [16] texts and trees of counts."""

import random
import unittest

from grammar import COUNTS, column_of
from restcounts.counts import Count, count_of, count_text, is_tree
from restcounts.errors import BadText, Unlike
from restcounts.powers import Powers, powers_text

ONE = ("number", 1)
WALK = ("walk", "x^-1 + x", "1")
WORDS = ("sum", "next", "step")
LONG = (" - ( 12 * walk [ x + x^-1 ] - 0 ) * walk[ 2*y ; 1 - z^2 ] + sum[ next [step[7]] ]"
        " - at [ 12 , 340 : - fold [ 1 + 2 , 3 * ( 4 ) ] ] * at[9,0:5] ")


def column(text):
    """The column of the error that a text raises, None if it raises none."""
    try:
        Count(text)
    except BadText as error:
        return error.column
    return None


def random_tree(chance, deep):
    kinds = ["number", "walk"] + ["times", "plus", "minus", "sum", "next", "step", "at", "fold"] * (deep > 0)
    kind = chance.choice(kinds)

    def inner():
        return random_tree(chance, deep - 1)
    if kind == "number":
        return ("number", chance.choice((0, 1, 7, 10 ** 40 - 1)))
    if kind == "walk":
        return ("walk", random_sum(chance), chance.choice(("1", random_sum(chance))))
    if kind == "times":
        return ("times", tuple(inner() for _ in range(chance.randrange(2, 4))))
    if kind == "plus":
        return ("plus", tuple((chance.choice((1, -1)), inner()) for _ in range(chance.randrange(2, 4))))
    if kind == "minus":
        return ("plus", ((-1, inner()),))
    if kind == "at":
        return ("at", chance.choice((1, 2, 99)), chance.choice((0, 5, 999)), inner())
    if kind == "fold":
        return ("fold", inner(), inner())
    return (kind, inner())


def random_sum(chance):
    return powers_text(Powers([([chance.randrange(-2, 3) for _ in range(3)], chance.randrange(-9, 30))
                               for _ in range(chance.randrange(4))]))


class Texts(unittest.TestCase):

    def test_each_form(self):
        two, three = ("number", 2), ("number", 3)
        for text, tree in (
                ("0", ("number", 0)), ("9" * 40, ("number", 10 ** 40 - 1)), ("(2)", two), ("((2))", two),
                ("walk[x+x^-1]", WALK), ("walk[x^-1+x;1]", WALK), ("walk[1*x+x^-1; 2 - 1]", WALK),
                ("walk[0;x]", ("walk", "0", "x")), ("walk[x; 0]", ("walk", "x", "0")),
                ("-1", ("plus", ((-1, ONE),))), ("(-1)", ("plus", ((-1, ONE),))),
                ("1+2", ("plus", ((1, ONE), (1, two)))), ("1 - 2", ("plus", ((1, ONE), (-1, two)))),
                ("-1+2-3", ("plus", ((-1, ONE), (1, two), (-1, three)))),
                ("(1+2)-3", ("plus", ((1, ("plus", ((1, ONE), (1, two)))), (-1, three)))),
                ("1-(2-3)", ("plus", ((1, ONE), (-1, ("plus", ((1, two), (-1, three))))))),
                ("1*2", ("times", (ONE, two))), ("1*2*3", ("times", (ONE, two, three))),
                ("(1*2)*3", ("times", (("times", (ONE, two)), three))),
                ("-1*2", ("plus", ((-1, ("times", (ONE, two))),))),
                ("(-1)*2", ("times", (("plus", ((-1, ONE),)), two))),
                ("1+2*3", ("plus", ((1, ONE), (1, ("times", (two, three)))))),
                ("sum[1]", ("sum", ONE)), ("next[1]", ("next", ONE)), ("step[-1]", ("step", ("plus", ((-1, ONE),)))),
                ("at[1,0:1]", ("at", 1, 0, ONE)), ("at[99,999:1]", ("at", 99, 999, ONE)),
                ("fold[1,2]", ("fold", ONE, two)), ("fold[1+2,(3)]", ("fold", ("plus", ((1, ONE), (1, two))), three))):
            count = Count(text)
            self.assertEqual((count.tree, count.text), (tree, text))
            self.assertTrue(is_tree(count.tree))

    def test_spaces_wherever_they_may_stand(self):
        pieces = []
        word = ""
        for character in LONG.replace(" ", "") + " ":
            if word and not (word.isdigit() and character.isdigit() or word.isalpha() and character.isalpha()):
                pieces.append(word)
                word = ""
            word += character
        tree = Count("".join(pieces)).tree
        self.assertEqual(Count(LONG).tree, tree)
        for spaces in (" ", "    "):
            text = spaces + spaces.join(pieces) + spaces
            self.assertEqual((Count(text).tree, Count(text).text), (tree, text))

    def test_counts_have_no_equality(self):
        self.assertFalse(Count("1") == Count("1"))
        self.assertTrue(Count("1") != Count("1"))

    def test_methods_stand_in_the_class_itself(self):
        for name in ("__init__", "value", "first_rests"):
            self.assertIn(name, vars(Count))
        self.assertNotIn("__eq__", vars(Count))


class Errors(unittest.TestCase):

    def test_columns(self):
        for text, wanted in (
                ("", 1), ("  ", 3), ("-", 2), ("--1", 2), ("+1", 1), ("1+-1", 3), ("1 +", 4), ("1 2", 3), ("01", 2),
                ("1*", 3), ("1**2", 3), ("1*-2", 3), ("()", 2), ("(1", 3), ("(1]", 3), ("1)", 2), ("1]", 2), ("x", 1),
                ("walk", 5), ("wal", 4), ("walx", 4), ("w alk[x]", 2), ("walk x", 6), ("walkx", 5), ("Walk[x]", 1),
                ("walk[", 6), ("walk[]", 6), ("walk[x", 7), ("walk[x;", 8), ("walk[x;]", 8), ("walk[x;1", 9),
                ("walk[x;1;", 9), ("walk[x,1]", 7), ("walk[(x)]", 6), ("walk[x]]", 8), ("walk[walk[x]]", 6),
                ("sux", 3), ("sun", 3), ("st", 3), ("s", 2), ("sum[1,", 6), ("step", 5), ("stem", 4), ("sum(1)", 4),
                ("next[1;1]", 7), ("nexxt", 4), ("at[0", 4), ("at[00,1:1]", 4), ("at[100", 6), ("at[ 10 0", 8),
                ("at[-1,0:1]", 4), ("at[1,1000", 9), ("at[1,01", 7), ("at[1,00", 7), ("at[1,-1", 6), ("at[1:1]", 5),
                ("at[1,2,3]", 7), ("at[1,2 3", 8), ("at[x", 4), ("at[1,x", 6), ("at[9,9:", 8), ("at[9,9:]", 8),
                ("a[1]", 2), ("fold[1]", 7), ("fold[1,", 8), ("fold[1,]", 8), ("fold[1,2,3]", 9), ("folds[1,2]", 5),
                ("fold[1;2]", 7), ("1\n", 2), ("1.0", 2), ("\u0661", 1), ("1 \u00a01", 3), ("s um[1]", 2)):
            self.assertEqual(column(text), wanted, repr(text))

    def test_numbers_of_forty_figures(self):
        for ahead in ("", "1 + ", "fold[1, ", "-2 * ("):
            self.assertEqual(column(ahead + "1" * 41), len(ahead) + 41)
            self.assertEqual(column(ahead + "9" * 45), len(ahead) + 41)
        self.assertIsNone(column("9" * 40))
        # Within a walk the numbers may be longer.
        long = "7" * 60
        self.assertEqual(Count(f"walk[{long}*x^{long}]").tree, ("walk", f"{long}*x^{long}", "1"))

    def test_forty_open_brackets(self):
        for begin, end, kind in ([("(", ")", None)] + [(word + "[", "]", word) for word in WORDS]
                                 + [("at[1,0:", "]", "at"), ("fold[1,", "]", "fold")]):
            self.assertIsNone(column(begin * 40 + "1" + end * 40))
            self.assertIsNone(column(begin * 39 + "walk[x]" + end * 39))
            for more in ("(1)", "walk[x]", "sum[1]", "at[1,0:1]", "next[1]", "fold[1,1]", "step[1]"):
                at_limit = begin * 40
                self.assertEqual(column(at_limit + more), len(at_limit) + 1, more)
                self.assertEqual(column(at_limit + " " + more), len(at_limit) + 2)
                self.assertEqual(column(at_limit + "-" + more), len(at_limit) + 2)
                self.assertEqual(column(at_limit + "1*" + more), len(at_limit) + 3)
            self.assertEqual(column(begin * 40), len(begin) * 40 + 1)
        # Brackets that are closed do not count.
        closed = "(" * 40 + "1" + ")" * 40
        self.assertIsNone(column(closed + "*" + closed + "+fold[" + "(" * 39 + "1" + ")" * 39 + ",walk[x]]"))
        mixed = "sum[(" * 20
        self.assertIsNone(column(mixed + "1" + ")]" * 20))
        self.assertEqual(column(mixed + "("), 101)
        self.assertEqual(column("(" * 39 + "walk[" + "("), 45)

    def test_every_cut_of_a_long_text(self):
        self.assertIsNone(column(LONG))
        for end in range(len(LONG)):
            self.assertEqual(column(LONG[:end]), column_of(COUNTS, "EXPR", LONG[:end]), LONG[:end])

    def test_against_all_readings_of_the_grammar(self):
        chance = random.Random(62)
        signs = "x y 0 1 9 12 + - * ^ ( ) [ ] ; , : sum at fold w s".split() + [" "]
        kinds = {True: 0, False: 0}
        for _ in range(700):
            text = count_text(random_tree(chance, 2))[:60]
            if chance.random() < 0.5:
                text = count_text(random_tree(chance, 1))
            for _ in range(chance.randrange(3)):
                at = chance.randrange(len(text) + 1)
                text = chance.choice((text[:at] + chance.choice(signs) + text[at:],
                                      text[:at] + chance.choice(signs) + text[at + 1:],
                                      text[:at] + text[at + 1:], text[:at]))
            if "9" * 20 in text:
                continue
            wanted = column_of(COUNTS, "EXPR", text)
            self.assertEqual(column(text), wanted, repr(text))
            kinds[wanted is None] += 1
        self.assertGreater(min(kinds.values()), 80)


class Trees(unittest.TestCase):

    def test_text_of_each_kind(self):
        two, three = ("number", 2), ("number", 3)
        plus, times = ("plus", ((1, ONE), (-1, two))), ("times", (two, three))
        for tree, text in (
                (("number", 0), "0"), (WALK, "walk[x^-1 + x]"), (("walk", "x", "0"), "walk[x; 0]"),
                (("walk", "0", "1"), "walk[0]"), (("sum", plus), "sum[1 - 2]"), (("next", times), "next[2 * 3]"),
                (("step", ("plus", ((-1, ONE),))), "step[-1]"), (("at", 99, 0, plus), "at[99, 0: 1 - 2]"),
                (("fold", plus, times), "fold[1 - 2, 2 * 3]"), (plus, "1 - 2"), (times, "2 * 3"),
                (("times", (plus, two)), "(1 - 2) * 2"), (("times", (two, times)), "2 * (2 * 3)"),
                (("plus", ((-1, times), (1, plus))), "-2 * 3 + (1 - 2)"),
                (("plus", ((-1, plus),)), "-(1 - 2)"), (("plus", ((-1, ("plus", ((-1, ONE),))),)), "-(-1)"),
                (("plus", ((1, ("plus", ((-1, ONE),))), (1, two))), "(-1) + 2"),
                (("times", (("sum", plus), WALK)), "sum[1 - 2] * walk[x^-1 + x]")):
            self.assertEqual(count_text(tree), text)
            self.assertEqual(Count(text).tree, tree)

    def test_there_and_back(self):
        chance = random.Random(63)
        for _ in range(600):
            tree = random_tree(chance, chance.randrange(5))
            self.assertTrue(is_tree(tree))
            text = count_text(tree)
            count = count_of(tree)
            self.assertIs(type(count), Count)
            self.assertEqual((count.tree, count.text), (tree, text))
            self.assertEqual(Count(text.replace(" ", "")).tree, tree)

    def test_brackets_only_where_they_are_needed(self):
        chance = random.Random(64)
        for _ in range(300):
            tree = random_tree(chance, 3)
            text = count_text(tree)
            # Without any one pair of round brackets the text says something else.
            for begin in [at for at, sign in enumerate(text) if sign == "("]:
                deep = 0
                for end in range(begin, len(text)):
                    deep += (text[end] == "(") - (text[end] == ")")
                    if deep == 0:
                        break
                less = text[:begin] + text[begin + 1:end] + text[end + 1:]
                if column(less) is None:
                    self.assertNotEqual(Count(less).tree, tree)

    def test_values_that_are_nearly_trees(self):
        two = ("number", 2)
        wrong = [
            None, True, 0, 1, "", "1", (), ("number",), ("number", -1), ("number", True), ("number", "1"),
            ("number", 10 ** 40), ("number", 10 ** 6000), ("number", 1.0), ("number", 1, 1), ["number", 1],
            ("Number", 1), (b"number", 1), (("number",), 1), ("plus", ONE), ("plus", ()), ("plus", ((1, ONE),)),
            ("plus", ((True, ONE), (1, two))), ("plus", ((-1.0, ONE), (1, two))), ("plus", ((2, ONE), (1, two))),
            ("plus", ((0, ONE), (1, two))), ("plus", ([1, ONE], (1, two))), ("plus", [(1, ONE), (1, two)]),
            ("plus", ((1, ONE), (1, two, 1))), ("plus", ((1, ONE), (1,))), ("plus", ((1, ONE), 2)),
            ("plus", ((ONE, 1), (two, 1))), ("plus", (-1, ONE)), ("plus", ((-1, None),)), ("plus", ((1, ONE),), 1),
            ("times", ()), ("times", (ONE,)), ("times", [ONE, two]), ("times", (ONE, 2)), ("times", ONE, two),
            ("times", (ONE, ["number", 2])), ("walk", "x"), ("walk", "x", "1", "1"), ("walk", "x + 1", "1"),
            ("walk", "x", "1 "), ("walk", "1*x", "1"), ("walk", "", "1"), ("walk", "x", ""), ("walk", "x", 1),
            ("walk", "x+y", "1"), ("walk", "y+x", "1"), ("walk", "x^1", "1"), ("walk", "x]", "1"),
            ("walk", Powers([((1, 0, 0), 1)]), "1"), ("walk", "-0", "1"), ("walk", b"x", "1"),
            ("sum", 1), ("sum", ONE, ONE), ("sum",), ("sum", [ONE]), ("sum", (ONE,)), ("fold", ONE),
            ("fold", ONE, 1), ("fold", ONE, ONE, ONE), ("at", 0, 0, ONE), ("at", 100, 0, ONE), ("at", True, 0, ONE),
            ("at", 1, False, ONE), ("at", 1, -1, ONE), ("at", 1, 1000, ONE), ("at", 1, 0, 1), ("at", 1, 0),
            ("at", 1, ONE), ("at", 1.0, 0, ONE), ("at", 1, "0", ONE), ("minus", ONE), ("sum[1]",), {"number": 1}]
        for value in wrong:
            self.assertIs(is_tree(value), False, value)
            for around in (("sum", value), ("times", (ONE, value)), ("plus", ((-1, value),)), ("fold", value, ONE)):
                self.assertIs(is_tree(around), False, around)
            for action in (count_text, count_of):
                with self.assertRaises(Unlike) as caught:
                    action(value)
                self.assertEqual(caught.exception.what, "tree")
        self.assertIs(is_tree(("at", 1, 0, ("at", 99, 999, two))), True)

    def test_brackets_of_trees(self):
        for wrap, many in (
                (lambda tree: ("sum", tree), 40), (lambda tree: ("next", tree), 40), (lambda tree: ("step", tree), 40),
                (lambda tree: ("at", 1, 0, tree), 40), (lambda tree: ("fold", ONE, tree), 40),
                (lambda tree: ("fold", tree, ONE), 40), (lambda tree: ("plus", ((-1, tree),)), 41),
                (lambda tree: ("times", (ONE, tree)), 41), (lambda tree: ("plus", ((1, ONE), (-1, tree))), 41),
                (lambda tree: ("times", (("plus", ((-1, tree),)), ONE)), 40),
                (lambda tree: ("sum", ("plus", ((-1, ("times", (ONE, tree, ONE))),))), 40)):
            tree = ONE
            for _ in range(many):
                tree = wrap(tree)
            self.assertIs(is_tree(tree), True)
            self.assertEqual(count_of(tree).tree, tree)
            self.assertIs(is_tree(wrap(tree)), False)
            with self.assertRaises(Unlike):
                count_text(wrap(tree))
            tree = WALK
            for _ in range(many - 1):
                tree = wrap(tree)
            self.assertIs(is_tree(tree), True)
            self.assertEqual(count_of(tree).tree, tree)
            self.assertIs(is_tree(wrap(tree)), False)

    def test_values_nested_thousands_deep(self):
        for wrap in (lambda value: ("sum", value), lambda value: ("plus", ((-1, value),)),
                     lambda value: ("times", (ONE, value)), lambda value: ("times", (value, value)),
                     lambda value: (value,), lambda value: ("fold", value, value), lambda value: [value],
                     lambda value: ("plus", value), lambda value: ("plus", (value, value)),
                     lambda value: (value, value), lambda value: ("walk", value, value),
                     lambda value: ("number", value), lambda value: ("at", 1, 0, value)):
            value = ONE
            for _ in range(20000):
                value = wrap(value)
            self.assertIs(is_tree(value), False)
            with self.assertRaises(Unlike):
                count_of(value)

    def test_long_numbers_in_walks(self):
        long = "9" * 5000
        self.assertIs(is_tree(("walk", f"{long}*x^-{long}", long)), True)
        self.assertIs(is_tree(("walk", f"0{long}", long)), False)


if __name__ == "__main__":
    unittest.main()
