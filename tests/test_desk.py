"""Promises 2, 29 and 30: a history told by rows."""

import random
import unittest

from madeagain.desk import Desk
from madeagain.errors import MadeError, NoDeed, NoName, NoRecord, NoRow, NoText, Ring
from madeagain.texts import show_recipe
from plain import NAMES, PlainDesk, answer, any_recipe, refused

SHOP = ["give a 1", "give b 2", "cook s (a + b)", "cook t (s * 2)"]
FORTY = "1234567890" * 4


def desk_of(rows):
    desk = Desk()
    for row in rows:
        desk.say(row)
    return desk


class Rows(unittest.TestCase):
    def check(self, desk, *pairs):
        for row, told in pairs:
            if isinstance(told, str):
                self.assertEqual(desk.say(row), told, row)
            else:
                self.refuse(desk, row, told)

    def refuse(self, desk, row, kind, field=None):
        with self.assertRaises(kind, msg=repr(row)) as caught:
            desk.say(row)
        self.assertIsInstance(caught.exception, MadeError)
        if kind is NoName:
            self.assertEqual(caught.exception.name, field or row.split(" ")[-1])
        if kind is Ring:
            self.assertEqual(caught.exception.ring, field or caught.exception.ring)


class Answers(Rows):
    def test_each_row(self):
        self.check(
            Desk(), ("give a 1", "ok"), ("give b -2", "ok"), ("cook s (a + b)", "ok"), ("deeds", "3"), ("records", "0"),
            ("made", "none"), ("kept", "none"), ("wish s", "-1"), ("made", "s"), ("kept", "none"), ("records", "1"),
            ("why s", "(a + b) [a=1,b=-2] = -1"), ("wish a s b s", "1 -1 -2 -1"), ("made", "none"), ("kept", "s"),
            ("drop b", "ok"), ("deeds", "4"), ("undo", "ok"), ("deeds", "3"), ("redo", "ok"), ("deeds", "4"),
            ("wish a", "1"), ("kept", "none"), ("made", "none"), ("clean", "0"), ("records", "0"))

    def test_several_names_with_single_blanks(self):
        self.check(desk_of(SHOP), ("wish t s a", "6 3 1"), ("made", "s t"), ("wish s t", "3 6"), ("kept", "s t"),
                   ("give b 0", "ok"), ("give a 3", "ok"), ("wish t s", "6 3"), ("made", "s"), ("kept", "t"))

    def test_recipes_with_blanks(self):
        self.check(desk_of(SHOP), ("cook p [(a - b) ? s : (t ^ -7){t,s}]", "ok"), ("wish p", "6"),
                   ("why p", "[(a - b) ? s : (t ^ -7){t,s}] [a=1,b=2,t=6] = 6"), ("cook abcdefgh a", "ok"),
                   ("wish abcdefgh", "1"), ("cook n 0{a}{b}", "ok"), ("wish n", "2"))

    def test_a_name_like_a_word(self):
        self.check(Desk(), ("give give 3", "ok"), ("cook wish give", "ok"), ("wish wish give", "3 3"),
                   ("why wish", "give [give=3] = 3"), ("cook cook cook", "ok"), ("drop give", "ok"), ("drop cook", "ok"),
                   ("cook none 1", "ok"), ("wish none", "1"), ("made", "none"))

    def test_numbers(self):
        for text in ("0", "7", "-7", "10", FORTY, "-" + FORTY, "9" * 40):
            self.check(desk_of([]), ("give a " + text, "ok"), ("wish a a", text + " " + text))

    def test_numbers_told_with_all_their_figures(self):
        desk = desk_of(["give a " + "9" * 40, "cook b (a + 1)", "cook c (b * a)", "cook d (c - c)"])
        long = 10 ** 40
        self.check(desk, ("wish b c", f"{long} {long * (long - 1)}"), ("made", "b c"), ("why b", NoRecord),
                   ("why c", NoRecord), ("wish d", "0"), ("why d", NoRecord), ("records", "3"), ("clean", "3"))
        self.assertEqual(len(desk.say("wish c")), 80)

    def test_undo_and_redo(self):
        desk = desk_of(SHOP)
        self.check(desk, ("undo", "ok"), ("wish t", NoName), ("redo", "ok"), ("redo", NoDeed), ("wish t", "6"),
                   ("undo", "ok"), ("undo", "ok"), ("give s 5", "ok"), ("redo", NoDeed), ("cook t (s * 2)", "ok"),
                   ("wish t", "10"), ("deeds", "4"))
        self.check(Desk(), ("undo", NoDeed), ("redo", NoDeed), ("give a 1", "ok"), ("undo", "ok"), ("undo", NoDeed))

    def test_a_wish_in_the_same_house_makes_none(self):
        self.check(desk_of(SHOP), ("wish t", "6"), ("give a 5", "ok"), ("cook s 1", "ok"), ("drop b", "ok"),
                   ("wish t", "2"), ("undo", "ok"), ("undo", "ok"), ("undo", "ok"), ("wish t", "6"), ("made", "none"),
                   ("kept", "s t"))


class Why(Rows):
    def test_ahead_of_a_wish(self):
        self.check(desk_of(SHOP), ("why s", NoName), ("why a", NoName), ("why none", NoName))

    def test_behind_one(self):
        self.check(desk_of(SHOP), ("wish t", "6"), ("why t", "(s * 2) [s=3] = 6"), ("why s", "(a + b) [a=1,b=2] = 3"),
                   ("why a", NoName), ("why none", NoName), ("wish s", "3"), ("why s", "(a + b) [a=1,b=2] = 3"),
                   ("why t", NoName), ("wish a", "1"), ("why s", NoName))

    def test_of_kept_ones(self):
        self.check(desk_of(SHOP + ["wish t"]), ("wish t", "6"), ("made", "none"), ("why t", "(s * 2) [s=3] = 6"),
                   ("cook u (a + b)", "ok"), ("wish u", "3"), ("kept", "u"), ("why u", "(a + b) [a=1,b=2] = 3"))

    def test_behind_a_refused_one(self):
        self.check(desk_of(SHOP + ["wish s", "cook r r"]), ("wish none", NoName), ("why s", "(a + b) [a=1,b=2] = 3"),
                   ("wish t r", Ring), ("why t", NoName), ("why s", "(a + b) [a=1,b=2] = 3"), ("made", "s"))

    def test_behind_changes_of_the_house(self):
        self.check(desk_of(SHOP + ["wish t"]), ("give a 5", "ok"), ("why s", "(a + b) [a=1,b=2] = 3"),
                   ("cook s 7", "ok"), ("why s", "(a + b) [a=1,b=2] = 3"), ("drop s", "ok"),
                   ("why s", "(a + b) [a=1,b=2] = 3"), ("undo", "ok"), ("wish s", "7"), ("why s", "7 [] = 7"),
                   ("why t", NoName), ("give s 8", "ok"), ("why s", "7 [] = 7"))

    def test_behind_a_cleaning(self):
        self.check(desk_of(SHOP + ["wish t", "wish s"]), ("clean", "1"), ("why s", "(a + b) [a=1,b=2] = 3"),
                   ("kept", "s"), ("made", "none"), ("why t", NoName))
        self.check(desk_of(SHOP + ["wish t", "give a 2"]), ("clean", NoRecord), ("why s", "(a + b) [a=1,b=2] = 3"))

    def test_long_numbers(self):
        desk = desk_of(["give a " + "9" * 40, "cook b (a + 0)", "cook c (a + a)", "cook d [c ? 1 : 2]", "cook e (1 - 1)"])
        self.check(desk, ("wish b d e", "9" * 40 + " 1 0"), ("why b", f"(a + 0) [a={'9' * 40}] = {'9' * 40}"),
                   ("why c", NoRecord), ("why d", NoRecord), ("why e", "(1 - 1) [] = 0"), ("why a", NoName))


class Clean(Rows):
    def test_ahead_of_a_wish(self):
        self.check(Desk(), ("clean", NoRecord))
        self.check(desk_of(SHOP), ("clean", NoRecord), ("records", "0"), ("wish none", NoName), ("clean", NoRecord))

    def test_behind_one(self):
        self.check(desk_of(SHOP), ("wish t", "6"), ("give a 5", "ok"), ("wish t", "14"), ("records", "4"), ("clean", "2"),
                   ("records", "2"), ("clean", "2"), ("wish s", "7"), ("made", "none"), ("clean", "1"), ("wish t", "14"),
                   ("made", "t"), ("undo", "ok"), ("wish t", "6"), ("made", "s t"))

    def test_behind_a_refused_one(self):
        self.check(desk_of(SHOP), ("wish t", "6"), ("wish s", "3"), ("wish none", NoName), ("clean", "1"), ("records", "1"))

    def test_of_the_house_as_it_is_now(self):
        desk = desk_of(SHOP + ["wish s", "give a 5", "wish s", "undo"])
        self.check(desk, ("clean", "1"), ("wish s", "3"), ("made", "none"), ("redo", "ok"), ("wish s", "7"), ("made", "s"))

    def test_one_that_makes_something(self):
        self.check(desk_of(SHOP + ["wish t"]), ("give a 5", "ok"), ("clean", NoRecord), ("records", "4"), ("made", "s t"),
                   ("kept", "none"), ("clean", "2"), ("made", "s t"), ("wish t", "14"), ("made", "none"))

    def test_one_that_is_refused(self):
        self.check(desk_of(SHOP + ["wish t"]), ("drop b", "ok"), ("clean", NoRecord), ("records", "2"), ("undo", "ok"),
                   ("clean", "2"), ("cook s s", "ok"), ("clean", NoRecord), ("drop t", "ok"), ("clean", NoRecord),
                   ("made", "s t"))
        self.check(desk_of(SHOP + ["cook p (t + a)", "wish p", "give b 3", "cook p (t + none)"]), ("clean", NoRecord),
                   ("records", "5"), ("made", "s t p"))

    def test_it_is_no_deed(self):
        self.check(desk_of(SHOP + ["wish s", "undo"]), ("clean", "1"), ("deeds", "3"), ("redo", "ok"), ("deeds", "4"))


class Refused(Rows):
    def no_row(self, *rows):
        desk = desk_of(SHOP + ["wish t", "undo"])
        for row in rows:
            self.refuse(desk, row, NoRow)
            self.refuse(Desk(), row, NoRow)
        self.check(desk, ("deeds", "3"), ("records", "2"), ("made", "s t"), ("redo", "ok"), ("clean", "2"))

    def test_words_too_few(self):
        self.no_row("", "give", "give a", "give 1", "cook", "cook a", "cook s", "drop", "wish", "why")

    def test_words_too_many(self):
        self.no_row("give a 1 1", "give a b 1", "drop a b", "undo a", "undo 1", "redo redo", "made s", "kept s", "why s t",
                    "deeds 1", "records 1", "clean s", "clean 1")

    def test_blanks(self):
        self.no_row(" ", "  ", " undo", "undo ", " give a 1", "give a 1 ", "give  a 1", "give a  1", "give a ", "give  1",
                    "wish ", "wish  s", "wish s ", "wish s  t", " wish s", "drop ", "drop a ", "drop  a", "cook ", "cook  ",
                    "cook  a 1", " cook a 1", "cook  1", "why ", "why s ", "why  s", "made ", " made", "kept ", "deeds ",
                    "records ", "clean ", " clean", "redo ")

    def test_tabs_and_line_ends(self):
        self.no_row("\t", "\n", "undo\n", "undo\t", "\nundo", "\tundo", "give\ta 1", "give a\t1", "give a 1\n", "give a\n1",
                    "give a\n 1", "wish s\n", "wish s\tt", "wish\ts", "wish s\nt", "cook\ta 1", "cook a\t1", "cook a\n1",
                    "cook a\n 1", "cook \ta 1", "drop a\n", "drop\ta", "why s\n", "why\ts", "made\n", "clean\n", "wish s \n",
                    "give a \n", "undo\nundo")

    def test_other_first_words(self):
        self.no_row("a", "s", "1", "Give a 1", "GIVE a 1", "gives a 1", "giv a 1", "take a 1", "house", "store_records",
                    "store", "say undo", "replayed", "ok", "none", "do", "wished s", "wishes", "cooks a 1", "Cook a 1",
                    "Undo", "size", "put 5 [] = 5", "record", "deed", "cleaned", "given a 1", "-", "wish,s", "give,a,1")

    def test_names_that_are_none(self):
        self.no_row("give A 1", "give a1 1", "give abcdefghi 1", "give 1 1", "give a, 1", "give -a 1", "give a_b 1",
                    "cook A 1", "cook abcdefghi 1", "cook 1 1", "cook a, 1", "cook A (a", "cook (a + b)", "cook (a + b) 1",
                    "drop A", "drop 1", "drop abcdefghi", "wish A", "wish 1", "wish s A", "wish A s", "wish none A",
                    "wish abcdefghi", "wish s,t", "wish (a + b)", "why A", "why 1", "why abcdefghi", "give  ", "why s,t")

    def test_numbers_that_are_none(self):
        self.no_row("give a b", "give a", "give a 01", "give a -0", "give a 00", "give a +1", "give a -", "give a --1",
                    "give a 1.0", "give a 1e3", "give a 0x1", "give a 1_000", "give a -01", "give a (1)", "give a 1a",
                    "give a True", "give a 1" + "0" * 40, "give a -1" + "0" * 40, "give a " + "0" * 41, "give a none")

    def test_anything(self):
        self.no_row(None, 1, True, [], (), {}, b"undo", ["undo"], ("give", "a", 1), ["give", "a", "1"], object())

    def test_recipes_that_write_none(self):
        desk = desk_of(SHOP + ["wish t", "undo"])
        for text in ("", " ", " 1", "1 ", "  ", "a b", "(a + b", "a + b", "(a+b)", "(a  + b)", "A", "abcdefghi",
                     "01", "-0", "1" + "0" * 40, "-1" + "0" * 40, "(a / b)", "[a ? b]", "a{}", "a{b", "a{b, c}",
                     "1\n", "\n1", "\t1", "(a\t+ b)", "a\n", "()", "a{a,a,a,a,a,a,a,a,a,a}",
                     "(" * 8 + "1" + " + 1)" * 8, "5 [] = 5", ","):
            self.refuse(desk, "cook a " + text, NoText)
            self.refuse(desk, "cook s " + text, NoText)
            self.refuse(desk, "cook new " + text, NoText)
            self.refuse(desk, "cook A " + text, NoRow)
        self.check(desk, ("deeds", "3"), ("redo", "ok"), ("wish t", "6"), ("made", "none"))

    def test_as_the_history_refuses(self):
        desk = desk_of(SHOP + ["cook r (a + q)", "cook q r", "cook u (t + none)"])
        self.refuse(desk, "drop none", NoName)
        self.refuse(desk, "wish none", NoName)
        self.refuse(desk, "wish s u t more", NoName, "none")
        self.refuse(desk, "wish s more none", NoName, "more")
        self.refuse(desk, "wish r", Ring, ["r", "q", "r"])
        self.refuse(desk, "wish a q", Ring, ["q", "r", "q"])
        self.check(desk, ("made", "none"), ("kept", "none"), ("deeds", "7"), ("records", "2"))

    def test_a_refused_wish_leaves_the_last_one(self):
        desk = desk_of(SHOP + ["cook u (t + none)", "wish s"])
        self.refuse(desk, "wish u", NoName, "none")
        self.check(desk, ("made", "s"), ("kept", "none"), ("why s", "(a + b) [a=1,b=2] = 3"), ("records", "2"),
                   ("clean", "1"), ("records", "1"))

    def test_two_desks_are_apart(self):
        desk_of(SHOP + ["wish t"])
        self.check(Desk(), ("deeds", "0"), ("records", "0"), ("made", "none"), ("clean", NoRecord), ("wish t", NoName))


class Whole(Rows):
    def test_against_the_plain_words(self):
        chance = random.Random(29)
        seen = {}
        for _ in range(200):
            desk, plain = Desk(), PlainDesk()
            for row in first_rows(chance):
                self.assertEqual(desk.say(row), plain.say(row))
            for _ in range(60):
                row = any_row(chance) if chance.random() < 0.8 else spoiled(chance, any_row(chance))
                told = answer(lambda: desk.say(row))
                self.assertEqual(told, answer(lambda: plain.say(row)), row)
                mark = (row.split(" ")[0], told[0] if refused(told) else "")
                seen[mark] = seen.get(mark, 0) + 1
                for other in ("deeds", "records", "made", "kept"):
                    self.assertEqual(desk.say(other), plain.say(other), row)
        for mark in (("give", ""), ("give", "NoRow"), ("cook", ""), ("cook", "NoRow"), ("cook", "NoText"),
                     ("drop", ""), ("drop", "NoName"), ("undo", ""), ("redo", ""), ("redo", "NoDeed"), ("wish", ""),
                     ("wish", "NoName"), ("wish", "Ring"), ("wish", "NoRow"), ("why", ""), ("why", "NoName"),
                     ("clean", ""), ("clean", "NoRecord")):
            self.assertGreater(seen.get(mark, 0), 20, seen)


def first_rows(chance):
    rows = [f"give {name} {chance.randint(-2, 2)}" for name in NAMES[:3]]
    for place, name in enumerate(NAMES[3:], 3):
        rows.append(f"cook {name} {show_recipe(any_recipe(chance, NAMES[:place], 3))}")
    return rows


def any_row(chance):
    kind = chance.choice(["give", "cook", "cook", "drop", "undo", "redo", "wish", "wish", "wish", "made", "kept", "why", "why",
                          "deeds", "records", "clean"])
    name = chance.choice(NAMES)
    if kind == "give":
        return f"give {name} {chance.choice([0, 1, -1, 2, 10 ** 39])}"
    if kind == "cook":
        seen = NAMES[:max(1, NAMES.index(name))] if chance.random() < 0.9 else NAMES
        return f"cook {name} {show_recipe(any_recipe(chance, seen, 3))}"
    if kind in ("drop", "why"):
        return f"{kind} {name}"
    if kind == "wish":
        return " ".join(["wish"] + [chance.choice(NAMES) for _ in range(chance.randint(1, 3))])
    return kind


def spoiled(chance, row):
    place = chance.randint(0, len(row))
    sign = chance.choice([" ", " ", "  ", "\t", "\n", "A", "a", "0", "-", "(", "", ""])
    return row[:place] + sign + row[place + chance.randint(0, 1):]


if __name__ == "__main__":
    unittest.main()
