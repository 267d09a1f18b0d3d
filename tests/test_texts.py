"""Promises 2 and 6: the one writing of each recipe, and its reading back."""

import random
import unittest

from madeagain.errors import MadeError, NoText
from madeagain.recipes import is_recipe
from madeagain.texts import read_recipe, show_recipe

FORTY = "1234567890" * 4
X = ("read", "x")
ONE = ("number", 1)

WRITINGS = {
    "0": ("number", 0),
    "7": ("number", 7),
    "10": ("number", 10),
    "-1": ("number", -1),
    "-10": ("number", -10),
    FORTY: ("number", int(FORTY)),
    "-" + FORTY: ("number", -int(FORTY)),
    "9" * 40: ("number", 10 ** 40 - 1),
    "-" + "9" * 40: ("number", 1 - 10 ** 40),
    "a": ("read", "a"),
    "abcdefgh": ("read", "abcdefgh"),
    "number": ("read", "number"),
    "(x + 1)": ("plus", X, ONE),
    "(x - 1)": ("minus", X, ONE),
    "(x * 1)": ("times", X, ONE),
    "(x ^ 1)": ("most", X, ONE),
    "(x - -1)": ("minus", X, ("number", -1)),
    "(-1 - x)": ("minus", ("number", -1), X),
    "[x ? 1 : y]": ("pick", X, ONE, ("read", "y")),
    "0{a}": ("choose", ("number", 0), ("a",)),
    "-5{a}": ("choose", ("number", -5), ("a",)),
    "(x + 1){a,b}": ("choose", ("plus", X, ONE), ("a", "b")),
    "x{a}{b}": ("choose", ("choose", X, ("a",)), ("b",)),
    "x{a,b,c}": ("choose", X, ("a", "b", "c")),
    "[x ? 1 : 0]{a,a}": ("choose", ("pick", X, ONE, ("number", 0)), ("a", "a")),
    "x{a,b,c,d,e,f,g,h,i}": ("choose", X, tuple("abcdefghi")),
    "((x + 1) * [x{a,b} ? (1 ^ x) : -3])":
        ("times", ("plus", X, ONE), ("pick", ("choose", X, ("a", "b")), ("most", ONE, X), ("number", -3))),
    "[[x ? 1 : 1] ? [1 ? x : 1] : [1 ? 1 : x]]":
        ("pick", ("pick", X, ONE, ONE), ("pick", ONE, X, ONE), ("pick", ONE, ONE, X)),
}

SIGNS = "0123456789abcxyz ()[]{},?:+-*^=\n\tA_."


def any_recipe(chance, depth):
    kind = chance.choice(["number", "read", "plus", "minus", "times", "most", "pick", "choose"])
    if depth == 1 and kind != "read":
        kind = "number"
    if kind == "number":
        return (kind, chance.choice([0, 1, -1, chance.randint(-10 ** 40 + 1, 10 ** 40 - 1)]))
    if kind == "read":
        return (kind, "".join(chance.choice("abcz") for _ in range(chance.randint(1, 8))))
    if kind == "choose":
        return (kind, any_recipe(chance, depth - 1), tuple("abcdefghi"[:chance.randint(1, 9)]))
    return (kind,) + tuple(any_recipe(chance, depth - 1) for _ in range(3 if kind == "pick" else 2))


def sum_text(leaves):
    row = ["1"] * leaves
    while len(row) > 1:
        pairs = ["(" + row[k] + " + " + row[k + 1] + ")" for k in range(0, len(row) - 1, 2)]
        row = pairs + (row[-1:] if len(row) % 2 else [])
    return row[0]


class Writings(unittest.TestCase):
    def test_shown(self):
        for text, r in WRITINGS.items():
            self.assertEqual(show_recipe(r), text)

    def test_read_back(self):
        for text, r in WRITINGS.items():
            self.assertEqual(read_recipe(text), r)
            self.assertTrue(is_recipe(read_recipe(text)), text)

    def test_many_are_read_back(self):
        chance = random.Random(6)
        done = 0
        for turn in range(3000):
            r = any_recipe(chance, 1 + turn % 8)
            if is_recipe(r):
                self.assertEqual(read_recipe(show_recipe(r)), r)
                done += 1
        self.assertGreater(done, 2000)

    def test_each_text_that_is_read_is_the_one_writing(self):
        chance = random.Random(7)
        texts = sorted(WRITINGS)
        read = 0
        for _ in range(20000):
            text = chance.choice(texts)
            place = chance.randint(0, len(text))
            text = text[:place] + chance.choice(SIGNS) * chance.randint(0, 1) + text[place + chance.randint(0, 1):]
            try:
                r = read_recipe(text)
            except NoText:
                continue
            read += 1
            self.assertTrue(is_recipe(r), text)
            self.assertEqual(show_recipe(r), text)
        self.assertGreater(read, 100)

    def test_longer_numbers_are_still_shown(self):
        self.assertEqual(show_recipe(("number", 10 ** 40)), "1" + "0" * 40)
        self.assertEqual(show_recipe(("number", -10 ** 99)), "-1" + "0" * 99)

    def test_read_numbers_are_no_truths(self):
        for text in ("0", "1"):
            self.assertIs(type(read_recipe(text)[1]), int)

    def test_the_same_again(self):
        for text in WRITINGS:
            self.assertEqual(read_recipe(text), read_recipe(text))


class Refused(unittest.TestCase):
    def refused(self, thing):
        with self.assertRaises(NoText):
            read_recipe(thing)

    def test_is_a_made_error(self):
        with self.assertRaises(MadeError):
            read_recipe("")

    def test_what_is_no_text(self):
        for thing in (None, 1, 0, True, b"1", b"a", ["1"], ("number", 1), {"a": 1}, 1.5, object(), [], (), str):
            self.refused(thing)

    def test_the_empty_text(self):
        self.refused("")

    def test_blanks(self):
        for text in WRITINGS:
            for place in range(len(text) + 1):
                for blank in (" ", "\t", "\n", "\r", "\u00a0", "\x00"):
                    self.refused(text[:place] + blank + text[place:])
            for place in range(len(text)):
                if text[place] == " ":
                    self.refused(text[:place] + text[place + 1:])
                    self.refused(text[:place] + "\t" + text[place + 1:])
                    self.refused(text[:place] + "\n" + text[place + 1:])
        for text in (" ", "\n", "\t", "a\n", "1\n", "x{a}\n", "(x + 1)\n", "x{a, b}", "x {a}", "x{ a}", "x{a }"):
            self.refused(text)

    def test_numbers(self):
        for text in ("00", "01", "-0", "-00", "-01", "+1", "+0", "--1", "-", "- 1", "1-", "1.0", "1e3", "0x1", "1_0",
                     "1" * 41, "-" + "1" * 41, "0" * 41, "1 2", "\u0661", "\u00b2", "\uff11", "1\u0661"):
            self.refused(text)
            self.refused("(" + text + " + 1)")
            self.refused("(1 + " + text + ")")
            self.refused(text + "{a}")

    def test_names(self):
        for text in ("A", "aB", "abcdefghi", "a1", "1a", "a_b", "_", "\u00e4", "a\u00e4", "a-b", "a.b", "-a", "a,b"):
            self.refused(text)
            self.refused("(" + text + " + 1)")
            self.refused("x{" + text.replace(",", ";") + "}")

    def test_brackets(self):
        for text in WRITINGS:
            for place in range(len(text)):
                if text[place] in "()[]{}":
                    self.refused(text[:place] + text[place + 1:])
                    self.refused(text[:place] + text[place] + text[place:])
            self.refused(text + ")")
            self.refused("(" + text + ")")
            self.refused("[" + text + "]")
            self.refused("{" + text + "}")
        for text in ("(", ")", "[", "]", "{", "}", "()", "[]", "{}", "(1 + 1]", "[1 + 1]", "(1 ? 1 : 1)", "[1 ? 1]",
                     "[1 : 1 ? 1]", "(1 + 1 + 1)", "1 + 1", "(1 / 1)", "(1 % 1)", "(1 +)", "(+ 1)", "(1 ** 1)"):
            self.refused(text)

    def test_choices(self):
        for text in ("x{}", "x{,}", "x{a,}", "x{,a}", "x{a,,b}", "x{1}", "x{a b}", "x{a;b}", "{a}", "x{(a + b)}",
                     "x{a{b}}", "x{a,b,c,d,e,f,g,h,i,j}", "x{" + ",".join(["a"] * 10) + "}", "x{a}b", "x{a", "xa}",
                     "x{a}{}", "x{" + ",".join(["a"] * 3000) + "}"):
            self.refused(text)

    def test_depth(self):
        self.assertEqual(show_recipe(read_recipe("(" * 7 + "1" + " + 1)" * 7)), "(" * 7 + "1" + " + 1)" * 7)
        self.refused("(" * 8 + "1" + " + 1)" * 8)
        self.assertTrue(is_recipe(read_recipe("(1 - " * 7 + "1" + ")" * 7)))
        self.refused("(1 - " * 8 + "1" + ")" * 8)
        for ahead, behind in (("[", " ? 1 : 1]"), ("[1 ? ", " : 1]"), ("[1 ? 1 : ", "]")):
            self.assertTrue(is_recipe(read_recipe(ahead * 7 + "1" + behind * 7)))
            self.refused(ahead * 8 + "1" + behind * 8)

    def test_depth_of_choices(self):
        self.assertTrue(is_recipe(read_recipe("x" + "{a}" * 7)))
        self.refused("x" + "{a}" * 8)
        self.assertTrue(is_recipe(read_recipe("(1 + 1)" + "{a}" * 6)))
        self.refused("(1 + 1)" + "{a}" * 7)
        self.assertTrue(is_recipe(read_recipe("(x" + "{a}" * 6 + " + 1)")))
        self.refused("(x" + "{a}" * 7 + " + 1)")
        self.refused("(1 + x" + "{a}" * 7 + ")")
        self.assertTrue(is_recipe(read_recipe("(((1 + 1){a} + 1){b} * 2){c}{a}")))
        self.refused("(((1 + 1){a} + 1){b} * 2){c}{a}{a}")

    def test_how_many_in_all(self):
        self.assertTrue(is_recipe(read_recipe(sum_text(50))))
        self.assertTrue(is_recipe(read_recipe(sum_text(50) + "{a}")))
        self.refused(sum_text(51))
        self.refused(sum_text(50) + "{a}{a}")
        self.refused(sum_text(128))

    def test_some_thousands(self):
        for many in (1000, 5000, 9999):
            for sign in "([{)]}":
                self.refused(sign * many)
            self.refused("x" + "{a}" * many)
            self.refused("(x" + "{a}" * many + " + 1)")
            self.refused("[1 ? " * many)
            self.refused("(1 + " * many + "1" + ")" * many)
            self.refused("(" * many + "1" + " + 1)" * many)
            self.refused("x" + "{a" * many)
            self.refused("1" * many)
            self.refused("-" * many)
            self.refused("a" * many)


if __name__ == "__main__":
    unittest.main()
