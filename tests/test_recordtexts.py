"""Promises 2 and 18: the one writing of each true record, and its reading back."""

import copy
import random
import unittest

from madeagain.behind import is_true_record
from madeagain.errors import MadeError, NoRecord, NoText
from madeagain.fresh import fresh_build
from madeagain.recordtexts import read_record, show_record
from plain import NAMES, all_different, answer, any_house, num, read, refused

SUM = ("plus", read("a"), read("b"))
A, B = read("a"), read("b")
MOST = 10 ** 40 - 1

WRITINGS = {
    "(a + b) [a=1,b=-2] = -1": (SUM, [("a", 1), ("b", -2)], -1),
    "5 [] = 5": (num(5), [], 5),
    "-5 [] = -5": (num(-5), [], -5),
    "0 [] = 0": (num(0), [], 0),
    "a [a=0] = 0": (A, [("a", 0)], 0),
    "abcdefgh [abcdefgh=-10] = -10": (read("abcdefgh"), [("abcdefgh", -10)], -10),
    "(a + a) [a=3] = 6": (("plus", A, A), [("a", 3)], 6),
    "[a ? b : c] [a=1,b=7] = 7": (("pick", A, B, read("c")), [("a", 1), ("b", 7)], 7),
    "[a ? b : c] [a=0,c=8] = 8": (("pick", A, B, read("c")), [("a", 0), ("c", 8)], 8),
    "a{b,c} [a=-1,c=4] = 4": (("choose", A, ("b", "c")), [("a", -1), ("c", 4)], 4),
    "0{a} [a=4] = 4": (("choose", num(0), ("a",)), [("a", 4)], 4),
    "x{a}{b} [x=1,a=2,b=3] = 3":
        (("choose", ("choose", read("x"), ("a",)), ("b",)), [("x", 1), ("a", 2), ("b", 3)], 3),
    "((a * b) - (a ^ b)) [a=2,b=5] = 5": (("minus", ("times", A, B), ("most", A, B)), [("a", 2), ("b", 5)], 5),
    f"{MOST} [] = {MOST}": (num(MOST), [], MOST),
    f"a [a=-{MOST}] = -{MOST}": (A, [("a", -MOST)], -MOST),
}

SIGNS = "0123456789abcxyz ()[]{},?:+-*^=\n\tA_."


def numbered(n):
    """A record with the number in each place of its own: in the recipe (looked for or not), a read, the worth."""
    return [
        (("minus", num(n), num(n)), [], 0),
        (("times", num(n), num(0)), [], 0),
        (("pick", num(1), num(2), num(n)), [], 2),
        (("pick", num(n), num(3), ("plus", num(3), num(0))), [], 3),
        (("pick", num(0), ("plus", num(0), ("choose", num(n), ("a",))), num(2)), [], 2),
        (("times", A, num(0)), [("a", n)], 0),
        (("times", SUM, num(0)), [("a", 1), ("b", n)], 0),
        (("plus", A, num(n - 1 if n > 0 else n + 1)), [("a", 1 if n > 0 else -1)], n),
    ]


class Writings(unittest.TestCase):
    def test_shown(self):
        for text, record in WRITINGS.items():
            self.assertEqual(show_record(record), text)

    def test_read_back(self):
        for text, record in WRITINGS.items():
            told = read_record(text)
            self.assertEqual(told, record)
            self.assertIs(is_true_record(told), True)
            self.assertEqual([type(told)] + [type(part) for part in told], [tuple, tuple, list, int])

    def test_records_of_builds(self):
        chance = random.Random(18)
        seen = {}
        for _ in range(600):
            house = any_house(chance)
            told = answer(lambda: fresh_build(house, NAMES))
            if not refused(told):
                for record in told[1].values():
                    text = show_record(record)
                    self.assertEqual(read_record(text), record)
                    self.assertEqual(seen.setdefault(text, record), record)
        self.assertGreater(len(seen), 500)

    def test_forty_figures(self):
        for n in (MOST, -MOST, 10 ** 39, -10 ** 39):
            for record in numbered(n):
                self.assertTrue(is_true_record(record), record)
                self.assertEqual(read_record(show_record(record)), record)

    def test_forty_one_figures_are_not_written(self):
        for n in (MOST + 1, -MOST - 1, 10 ** 41 - 1, 10 ** 99, -10 ** 99, 10 ** 5000):
            for record in numbered(n):
                self.assertTrue(is_true_record(record))
                with self.assertRaises(NoRecord):
                    show_record(record)
        with self.assertRaises(NoRecord):
            show_record((SUM, [("a", MOST), ("b", 1)], MOST + 1))

    def test_what_is_told_is_the_askers_own(self):
        text = "(a + b) [a=1,b=-2] = -1"
        first = read_record(text)
        second = read_record(text)
        self.assertTrue(all_different([first, second]))
        first[1].clear()
        self.assertEqual(second, WRITINGS[text])
        self.assertEqual(read_record(text), WRITINGS[text])

    def test_nothing_handed_in_is_changed(self):
        for text, record in WRITINGS.items():
            before = copy.deepcopy(record)
            self.assertEqual(show_record(record), show_record(record))
            self.assertEqual(record, before)


class NotWritten(unittest.TestCase):
    def refuse(self, thing):
        with self.assertRaises(NoRecord) as caught:
            show_record(thing)
        self.assertIsInstance(caught.exception, MadeError)

    def test_what_is_no_true_record(self):
        for thing in ((SUM, [("a", 1), ("b", -2)], 1), (SUM, [("b", -2), ("a", 1)], -1), (SUM, [("a", 1)], 1),
                      (SUM, (("a", 1), ("b", -2)), -1), (num(1), [], True), (num(True), [], 1), (num(5), [("a", 1)], 5),
                      (A, [("a", True)], 1), (A, [["a", 1]], 1), [num(5), [], 5], (num(5), []), (num(5), [], 5, 5)):
            self.refuse(thing)

    def test_anything(self):
        for thing in (None, 1, True, "", "5 [] = 5", "5", [], (), {}, object(), set(), b"5 [] = 5", ((),), ([], [], []),
                      (None, None, None), num(5), 1.5):
            self.refuse(thing)

    def test_a_recipe_that_is_too_deep(self):
        r = num(1)
        for _ in range(8):
            r = ("plus", r, num(0))
        self.refuse((r, [], 1))
        for _ in range(5000):
            r = ("plus", r, num(0))
        self.refuse((r, [], 1))


class NotRead(unittest.TestCase):
    def refuse(self, text):
        with self.assertRaises(NoText, msg=repr(text)) as caught:
            read_record(text)
        self.assertIsInstance(caught.exception, MadeError)

    def test_records_that_are_not_true(self):
        for text in ("(a + b) [a=1,b=-2] = 1", "(a + b) [a=1,b=-2] = 0", "(a + b) [b=-2,a=1] = -1",
                     "(a + b) [a=1] = 1", "(a + b) [] = 0", "(a + b) [a=1,b=-2,c=0] = -1",
                     "(a + b) [a=1,a=1,b=-2] = -1", "5 [] = 6", "5 [] = -5", "5 [a=5] = 5", "a [] = 0",
                     "a [b=1] = 1", "[a ? b : c] [a=1,c=7] = 7", "[a ? b : c] [a=0,b=7] = 7",
                     "a{b,c} [a=-1,b=4] = 4", "a [a=1,a=1] = 1", "a [a=1,a=2] = 1", "a [a=2,a=1] = 1"):
            self.refuse(text)

    def test_signs_other_too_many_or_too_few(self):
        for text in ("", "5", "5 []", "5 [] =", "5 [] = ", "[] = 5", " [] = 5", "5[] = 5", "5 []= 5", "5 [] =5",
                     "5 [] 5", "5  [] = 5", "5 []  = 5", "5 [] =  5", "5 [ ] = 5", "5 [,] = 5", "5 () = 5",
                     "5 {} = 5", "5 [] == 5", "5 [] : 5", "5 [] = 5 ", " 5 [] = 5", "5 [] = 5 5", "5 [] = 5,",
                     "5 [] = 5\n", "\n5 [] = 5", "5\t[] = 5", "5 []\n= 5", "5 [] =\t5", "5 [[]] = 5", "5 [ = 5",
                     "5 ] = 5", "5 [] = 05", "5 [] = +5", "05 [] = 5", "0 [] = -0", "-0 [] = 0", "5 [] = five",
                     "5 [] = a", "5 [] = (5)", "(5) [] = 5", "5.0 [] = 5", "5 [] = 5.0", "5 [] = 5 [] = 5",
                     "5 [] = 5\n5 [] = 5"):
            self.refuse(text)

    def test_signs_in_reads(self):
        for text in ("a [a=1,] = 1", "a [,a=1] = 1", "a [a=1 ] = 1", "a [ a=1] = 1", "a [a =1] = 1", "a [a= 1] = 1",
                     "a [a:1] = 1", "a [a1] = 1", "a [a=] = 1", "a [=1] = 1", "a [a] = 1", "a [1] = 1",
                     "a [1=a] = 1", "a [a==1] = 1", "a [a=01] = 1", "a [a=+1] = 1", "a [a=--1] = -1",
                     "a [a=-0] = 0", "a [A=1] = 1", "a [a=b] = 1", "a [a=(1)] = 1", "a [(a=1)] = 1",
                     "a [a=1\n] = 1", "a [a=1;] = 1", "a [a=1\t] = 1", "a [\"a\"=1] = 1",
                     "(a + b) [a=1, b=-2] = -1", "(a + b) [a=1 b=-2] = -1", "(a + b) [a=1,,b=-2] = -1",
                     "(a + b) [a=1;b=-2] = -1", "(a + b) [a=1b=-2] = -1", "(a + b) [a=1][b=-2] = -1",
                     "(a+b) [a=1,b=-2] = -1", "a + b [a=1,b=-2] = -1", "abcdefghi [abcdefghi=1] = 1"):
            self.refuse(text)

    def test_forty_one_figures(self):
        long = "1" + "0" * 40
        for text in (f"{long} [] = {long}", f"a [a={long}] = {long}", f"(a * 0) [a={long}] = 0",
                     f"(a * 0) [a=-{long}] = 0", f"[1 ? 2 : {long}] [] = 2", f"[1 ? 2 : -{long}] [] = 2",
                     f"(a + 1) [a={'9' * 40}] = {long}", f"({long} - {long}) [] = 0", f"-{long} [] = -{long}",
                     f"a [a=-{long}] = -{long}"):
            self.refuse(text)
            self.assertTrue(is_true_record(read_record(text.replace(long, "7").replace("9" * 40, "6"))))

    def test_recipes_that_are_too_deep_or_too_large(self):
        text = "1"
        for _ in range(7):
            text = "(" + text + " ^ 1)"
        self.assertEqual(read_record(text + " [] = 1")[2], 1)
        self.refuse("(" + text + " ^ 1) [] = 1")
        self.refuse("a" + "{a}" * 8 + " [a=1] = 1")
        self.assertEqual(read_record("a" + "{a}" * 7 + " [a=1] = 1")[2], 1)
        self.refuse("a{a,a,a,a,a,a,a,a,a,a} [a=1] = 1")
        self.refuse("(" * 9000 + "1")
        row = ["1"] * 51
        while len(row) > 1:
            pairs = ["(" + row[k] + " ^ " + row[k + 1] + ")" for k in range(0, len(row) - 1, 2)]
            row = pairs + row[len(row) // 2 * 2:]
        self.refuse(row[0] + " [] = 1")

    def test_anything(self):
        for thing in (None, 5, True, [], (), {}, b"5 [] = 5", ["5 [] = 5"], object(), (num(5), [], 5), 1.5, set()):
            self.refuse(thing)

    def test_each_text_that_is_read_is_the_one_writing(self):
        chance = random.Random(181)
        texts = sorted(WRITINGS)
        done = {"read": 0, "NoText": 0}
        for _ in range(30000):
            text = chance.choice(texts)
            place = chance.randint(0, len(text))
            text = text[:place] + chance.choice(SIGNS) * chance.randint(0, 1) + text[place + chance.randint(0, 1):]
            try:
                record = read_record(text)
            except NoText:
                done["NoText"] += 1
                continue
            done["read"] += 1
            self.assertTrue(is_true_record(record), text)
            self.assertEqual(show_record(record), text)
        self.assertTrue(done["read"] > 1000 and done["NoText"] > 10000, done)


if __name__ == "__main__":
    unittest.main()
