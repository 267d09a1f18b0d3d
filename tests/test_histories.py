"""Promises 2, 3, 25 and 26: deeds, undo and redo, wishes, cleanings."""

import copy
import random
import unittest

from madeagain.behind import is_true_record
from madeagain.cleaning import needed
from madeagain.errors import MadeError, NoDeed, NoName, NoRecord, NoText, Ring
from madeagain.fresh import fresh_build
from madeagain.histories import History, replayed
from madeagain.recipes import is_house
from plain import NAMES, PlainHistory, all_different, answer, any_recipe, num, read, refused

SUM = ("plus", read("a"), read("b"))
TWICE = ("times", read("s"), num(2))
NO_NAMES = ["", "A", "a1", "abcdefghi", "a b", "a ", "a\n", " a", None, 1, True, ["a"], ("a",), {}, b"a"]
NO_NUMBERS = [True, False, None, "1", 1.0, [1], (1,), {}, num(1)]
NO_RECIPES = [None, 1, True, "a", "(a + b)", [], (), ["number", 1], num(True), num("1"), read("A"), ("plus", num(1)),
              ("sum", num(1), num(1)), ("choose", num(1), ()), ("choose", num(1), ["a"]),
              ("plus", num(1), ["number", 1])]


def history_of(deeds):
    history = History()
    for deed in deeds:
        getattr(history, deed[0])(*deed[1:])
    return history


def deep_recipe():
    r = num(1)
    for _ in range(8):
        r = ("plus", r, num(1))
    return r


SHOP = [("give", "a", 1), ("give", "b", 2), ("cook", "s", SUM), ("cook", "t", TWICE)]


class Refusing(unittest.TestCase):
    def no_text(self, call):
        with self.assertRaises(NoText) as caught:
            call()
        self.assertIsInstance(caught.exception, MadeError)

    def no_name(self, name, call):
        with self.assertRaises(NoName) as caught:
            call()
        self.assertEqual(caught.exception.name, name)

    def no_deed(self, call):
        with self.assertRaises(NoDeed) as caught:
            call()
        self.assertIsInstance(caught.exception, MadeError)

    def no_record(self, call):
        with self.assertRaises(NoRecord):
            call()

    def all_of(self, history):
        return (history.house(), history.made(), history.kept(), history.deeds(), history.store_records())


class Deeds(Refusing):
    def test_at_first(self):
        self.assertEqual(self.all_of(History()), (({}, {}), [], [], [], []))
        self.no_deed(History().undo)
        self.no_deed(History().redo)

    def test_deeds(self):
        history = History()
        self.assertIsNone(history.give("a", 1))
        self.assertEqual(history.house(), ({"a": 1}, {}))
        self.assertIsNone(history.cook("s", SUM))
        self.assertEqual(history.house(), ({"a": 1}, {"s": SUM}))
        self.assertIsNone(history.give("a", -10 ** 99))
        self.assertEqual(history.house(), ({"a": -10 ** 99}, {"s": SUM}))
        self.assertIsNone(history.drop("a"))
        self.assertEqual(history.house(), ({}, {"s": SUM}))
        self.assertEqual(history.deeds(), [
            ("give", "a", 1), ("cook", "s", SUM), ("give", "a", -10 ** 99), ("drop", "a")])

    def test_what_a_name_was_before_it_is_no_more(self):
        history = History()
        for deed, house in ((("give", "a", 1), ({"a": 1}, {})), (("cook", "a", SUM), ({}, {"a": SUM})),
                            (("cook", "a", num(2)), ({}, {"a": num(2)})), (("give", "a", 3), ({"a": 3}, {})),
                            (("drop", "a"), ({}, {})), (("cook", "a", SUM), ({}, {"a": SUM})),
                            (("drop", "a"), ({}, {}))):
            getattr(history, deed[0])(*deed[1:])
            self.assertEqual(history.house(), house)
            self.assertIs(is_house(history.house()), True)
        for _ in range(6):
            history.undo()
        self.assertEqual(history.house(), ({"a": 1}, {}))

    def test_drop_of_a_name_that_is_none(self):
        history = History()
        self.no_name("a", lambda: history.drop("a"))
        history.give("a", 1)
        history.cook("s", SUM)
        self.no_name("b", lambda: history.drop("b"))
        history.drop("a")
        self.no_name("a", lambda: history.drop("a"))
        history.undo()
        history.drop("a")
        self.assertEqual(len(history.deeds()), 3)

    def test_undo_and_redo(self):
        history = history_of(SHOP)
        self.assertIsNone(history.undo())
        self.assertIsNone(history.undo())
        self.assertEqual(history.house(), ({"a": 1, "b": 2}, {}))
        self.assertEqual(history.deeds(), SHOP[:2])
        self.assertIsNone(history.redo())
        self.assertEqual(history.house(), ({"a": 1, "b": 2}, {"s": SUM}))
        history.redo()
        self.assertEqual((history.house(), history.deeds()), (history_of(SHOP).house(), SHOP))
        self.no_deed(history.redo)
        for _ in range(4):
            history.undo()
        self.assertEqual((history.house(), history.deeds()), (({}, {}), []))
        self.no_deed(history.undo)
        for _ in range(4):
            history.redo()
        self.assertEqual(history.deeds(), SHOP)

    def test_undo_gives_back_what_was(self):
        history = history_of([("give", "a", 1), ("give", "a", 2), ("cook", "a", SUM), ("drop", "a"), ("give", "a", 5)])
        told = []
        for _ in range(5):
            told.append(history.house())
            history.undo()
        self.assertEqual(told, [({"a": 5}, {}), ({}, {}), ({}, {"a": SUM}), ({"a": 2}, {}), ({"a": 1}, {})])
        for house in reversed(told):
            history.redo()
            self.assertEqual(history.house(), house)

    def test_a_new_deed_behind_undo(self):
        history = history_of(SHOP)
        history.undo()
        history.undo()
        history.give("c", 9)
        self.no_deed(history.redo)
        self.assertEqual(history.deeds(), SHOP[:2] + [("give", "c", 9)])
        history.undo()
        self.assertEqual(history.deeds(), SHOP[:2])
        history.redo()
        self.no_deed(history.redo)
        self.assertEqual(history.deeds(), SHOP[:2] + [("give", "c", 9)])

    def test_what_changes_nothing_is_a_deed(self):
        history = history_of([("give", "a", 1), ("give", "a", 1), ("cook", "s", SUM), ("cook", "s", SUM)])
        self.assertEqual(len(history.deeds()), 4)
        history.undo()
        self.assertEqual(history.house(), ({"a": 1}, {"s": SUM}))
        history.undo()
        self.assertEqual(history.house(), ({"a": 1}, {}))
        history.undo()
        self.assertEqual(history.house(), ({"a": 1}, {}))
        history.give("a", 1)
        self.no_deed(history.redo)

    def test_what_is_none_leaves_redo(self):
        history = history_of(SHOP)
        history.undo()
        before = history.deeds()
        for call in (lambda: history.wish(["s"]), lambda: history.wish([]), lambda: history.clean(["s"]),
                     lambda: history.wish(["none"]), lambda: history.clean(["none"]), lambda: history.drop("none"),
                     lambda: history.drop("A"), lambda: history.give("a", True), lambda: history.cook("a", 1),
                     lambda: history.give("A", 1), lambda: history.wish(["A"])):
            answer(call)
            self.assertEqual(history.deeds(), before)
        history.redo()
        self.assertEqual(history.deeds(), SHOP)

    def test_what_is_no_name_number_or_recipe(self):
        history = history_of(SHOP)
        history.wish(["s"])
        history.undo()
        before = self.all_of(history)
        for thing in NO_NAMES:
            self.no_text(lambda: history.give(thing, 1))
            self.no_text(lambda: history.cook(thing, SUM))
            self.no_text(lambda: history.drop(thing))
            for names in ([thing], ["s", thing], ["none", thing], [thing, "none"], ["s", "a", thing, "b"]):
                self.no_text(lambda: history.wish(names))
                self.no_text(lambda: history.clean(names))
            self.assertEqual(self.all_of(history), before)
        for thing in NO_NUMBERS:
            self.no_text(lambda: history.give("a", thing))
            self.no_text(lambda: history.give("new", thing))
        for thing in NO_RECIPES + [deep_recipe()]:
            self.no_text(lambda: history.cook("a", thing))
            self.no_text(lambda: history.cook("new", thing))
        self.assertEqual(self.all_of(history), before)
        history.redo()
        self.assertEqual(history.deeds(), SHOP)

    def test_names_that_are_no_list(self):
        history = history_of(SHOP)
        for thing in (None, 1, "s", "abc", {"s": 1}):
            self.no_text(lambda: history.wish(thing))
            self.no_text(lambda: history.clean(thing))


class Wishes(Refusing):
    def test_their_worths(self):
        history = history_of(SHOP)
        self.assertEqual(history.wish(["t", "a", "s", "t"]), [6, 1, 3, 6])
        self.assertEqual((history.made(), history.kept()), (["s", "t"], []))
        self.assertEqual(history.wish(["s", "t"]), [3, 6])
        self.assertEqual((history.made(), history.kept()), ([], ["s", "t"]))
        self.assertEqual(history.wish(["a"]), [1])
        self.assertEqual((history.made(), history.kept()), ([], []))
        history.wish(["s"])
        self.assertEqual(history.wish([]), [])
        self.assertEqual((history.made(), history.kept()), ([], []))

    def test_what_was_wished_in_the_same_house_makes_none(self):
        history = history_of(SHOP)
        history.wish(["t"])
        changes = [("give", "a", 5), ("cook", "s", num(7)), ("drop", "b"), ("cook", "s", ("most", read("a"), num(0)))]
        for deed in changes:
            getattr(history, deed[0])(*deed[1:])
            history.wish(["t"])
        for _ in range(4):
            history.undo()
        self.assertEqual(history.wish(["t"]), [6])
        self.assertEqual((history.made(), history.kept()), ([], ["s", "t"]))
        for _ in changes:
            history.redo()
            history.wish(["t"])
            self.assertEqual(history.made(), [])

    def test_the_same_house_by_another_way(self):
        history = history_of(SHOP)
        history.wish(["t"])
        for deed in (("drop", "s"), ("drop", "a"), ("drop", "b"), ("cook", "s", SUM), ("give", "b", 2),
                     ("give", "a", 1)):
            getattr(history, deed[0])(*deed[1:])
        history.wish(["t"])
        self.assertEqual((history.made(), history.kept()), ([], ["s", "t"]))

    def test_only_what_must_be_is_made(self):
        history = history_of(SHOP)
        history.wish(["t"])
        history.give("b", 0)
        history.give("a", 3)
        self.assertEqual(history.wish(["t"]), [6])
        self.assertEqual((history.made(), history.kept()), (["s"], ["t"]))

    def test_refused_ones_leave_made_and_kept(self):
        history = history_of(SHOP)
        history.wish(["s"])
        history.cook("u", ("plus", read("t"), read("none")))
        history.cook("r", read("r"))
        size = len(history.store_records())
        self.no_name("none", lambda: history.wish(["u"]))
        self.assertEqual((history.made(), history.kept()), (["s"], []))
        self.assertEqual(len(history.store_records()), size + 1)
        with self.assertRaises(Ring) as caught:
            history.wish(["s", "r"])
        self.assertEqual(caught.exception.ring, ["r", "r"])
        self.assertEqual((history.made(), history.kept()), (["s"], []))
        self.no_name("more", lambda: history.wish(["s", "more"]))
        self.assertEqual((history.made(), history.kept()), (["s"], []))
        self.assertEqual(history.wish(["t"]), [6])
        self.assertEqual((history.made(), history.kept()), ([], ["s", "t"]))

    def test_deeds_leave_made_and_kept(self):
        history = history_of(SHOP)
        history.wish(["t"])
        for call in (history.undo, history.redo, lambda: history.give("a", 7), lambda: history.drop("s")):
            call()
            self.assertEqual((history.made(), history.kept()), (["s", "t"], []))

    def test_two_histories_are_apart(self):
        first = history_of(SHOP)
        first.wish(["t"])
        self.assertEqual(self.all_of(History()), (({}, {}), [], [], [], []))


class Cleanings(Refusing):
    def test_what_is_left(self):
        history = history_of(SHOP)
        history.wish(["t"])
        history.give("a", 5)
        history.wish(["t"])
        self.assertEqual(len(history.store_records()), 4)
        self.assertEqual(history.clean(["s"]), 1)
        self.assertEqual(history.store_records(), [(SUM, [("a", 5), ("b", 2)], 7)])
        self.assertEqual((history.made(), history.kept()), (["s", "t"], []))
        history.wish(["t"])
        self.assertEqual((history.made(), history.kept()), (["t"], ["s"]))

    def test_the_stores_order(self):
        history = history_of(SHOP + [("cook", "n", num(4))])
        history.wish(["n", "t"])
        self.assertEqual(history.clean(["t", "n"]), 3)
        self.assertEqual([record[2] for record in history.store_records()], [4, 3, 6])

    def test_one_that_would_make_something(self):
        history = history_of(SHOP)
        self.no_record(lambda: history.clean(["t"]))
        self.assertEqual(len(history.store_records()), 2)
        self.assertEqual((history.made(), history.kept()), ([], []))
        self.assertEqual(history.clean(["t"]), 2)
        self.assertEqual((history.made(), history.kept()), ([], []))
        history.give("a", 9)
        self.no_record(lambda: history.clean(["s"]))
        self.assertEqual(len(history.store_records()), 3)
        history.wish(["t"])
        self.assertEqual((history.made(), history.kept()), (["t"], ["s"]))

    def test_one_that_is_refused(self):
        history = history_of(SHOP + [("cook", "u", ("plus", read("t"), read("none"))), ("cook", "r", read("r"))])
        self.no_record(lambda: history.clean(["u"]))
        self.assertEqual(len(history.store_records()), 2)
        before = history.store_records()
        self.no_record(lambda: history.clean(["r"]))
        self.no_record(lambda: history.clean(["none"]))
        self.no_record(lambda: history.clean(["t", "none"]))
        self.assertEqual(history.store_records(), before)

    def test_of_no_names_and_given_ones(self):
        history = history_of(SHOP)
        history.wish(["t"])
        self.assertEqual(history.clean([]), 0)
        self.assertEqual(history.store_records(), [])
        history.wish(["t"])
        self.assertEqual(history.clean(["a", "b", "a"]), 0)
        history.wish(["t"])
        self.assertEqual(history.made(), ["s", "t"])

    def test_it_is_no_deed(self):
        history = history_of(SHOP)
        history.wish(["t"])
        history.undo()
        history.clean(["s"])
        self.assertEqual(history.deeds(), SHOP[:3])
        history.redo()
        self.assertEqual(history.deeds(), SHOP)
        self.assertEqual(len(history.store_records()), 1)


class Replayed(Refusing):
    def test_a_history_of_its_deeds(self):
        history = history_of(SHOP + [("drop", "t"), ("give", "s", 4)])
        history.undo()
        again = replayed(history.deeds())
        self.assertIsInstance(again, History)
        self.assertEqual((again.house(), again.deeds()), (history.house(), history.deeds()))
        self.assertEqual((again.made(), again.kept(), again.store_records()), ([], [], []))
        self.no_deed(again.redo)
        for _ in range(5):
            again.undo()
        self.assertEqual(again.house(), ({}, {}))
        self.no_deed(again.undo)
        self.assertEqual(self.all_of(replayed([])), (({}, {}), [], [], [], []))

    def test_one_that_is_no_deed(self):
        for thing in (None, 1, "give", [], (), ("give",), ("give", "a"), ("give", "a", 1, 1), ("cook", "a"),
                      ("cook", "a", SUM, SUM), ("drop",), ("drop", "a", 1), ("undo",), ("redo",), ("wish", ["a"]),
                      ("clean", []), ["give", "a", 1], ("Give", "a", 1), (["give"], "a", 1), (None, "a", 1), {},
                      ("house",), ("made", "a"), ("give", "A", 1), ("give", "a", True), ("give", "a", "1"),
                      ("cook", "a", 1), ("cook", "a", "a"), ("cook", "A", SUM), ("drop", "A"), ("drop", None),
                      ("give", ["a"], 1), ("cook", "a", deep_recipe()), ("give", "a", SUM), ("cook", "a", [])):
            self.no_text(lambda: replayed([thing]))
            self.no_text(lambda: replayed(SHOP + [thing]))
            self.no_text(lambda: replayed([thing] + SHOP + [("drop", "none")]))

    def test_the_first_that_is_refused_counts(self):
        self.no_name("x", lambda: replayed([("drop", "x")]))
        self.no_name("x", lambda: replayed(SHOP + [("drop", "x"), None]))
        self.no_text(lambda: replayed(SHOP + [None, ("drop", "x")]))
        self.no_name("a", lambda: replayed([("give", "a", 1), ("drop", "a"), ("drop", "a")]))

    def test_deeds_that_are_no_list(self):
        for thing in (None, 1, "give", {}):
            self.no_text(lambda: replayed(thing))


class Own(Refusing):
    def test_what_is_told_is_the_askers_own(self):
        history = history_of(SHOP)
        wish = history.wish(["t", "s"])
        again = history.wish(["t", "s"])
        history.give("b", 3)
        history.wish(["t"])
        first = self.all_of(history)
        second = self.all_of(history)
        self.assertTrue(all_different([wish, again, first, second]))
        first[0][0].clear()
        first[0][1].clear()
        first[4][0][1].clear()
        for part in first[1:]:
            part.append("more")
        self.assertEqual(self.all_of(history), second)
        history.undo()
        self.assertEqual(history.wish(["t", "s"]), again)
        self.assertEqual(history.made(), [])

    def test_what_was_handed_in_and_is_changed_later(self):
        names = ["t"]
        deeds = list(SHOP)
        history = replayed(deeds)
        history.wish(names)
        history.clean(names)
        self.assertEqual((names, deeds), (["t"], SHOP))
        before = copy.deepcopy(self.all_of(history))
        names.append("none")
        deeds.clear()
        self.assertEqual(self.all_of(history), before)


def any_deed(chance, history, plain):
    """A kind of deed by chance, its names, and how it is done in each of both."""
    name = chance.choice(NAMES)
    names = [chance.choice(NAMES) for _ in range(chance.randint(0, 3))]
    number = chance.randint(-2, 2)
    r = any_recipe(chance, NAMES[:max(1, NAMES.index(name))] if chance.random() < 0.95 else NAMES, 3)
    calls = {
        "give": (lambda: history.give(name, number), lambda: plain.deed("give", name, number)),
        "cook": (lambda: history.cook(name, r), lambda: plain.deed("cook", name, r)),
        "drop": (lambda: history.drop(name), lambda: plain.deed("drop", name)),
        "undo": (history.undo, plain.undo),
        "redo": (history.redo, plain.redo),
        "wish": (lambda: history.wish(names), lambda: plain.wish(names)),
        "clean": (lambda: history.clean(names), lambda: plain.clean(names)),
    }
    kind = chance.choice(["give", "cook", "cook", "drop", "undo", "undo", "redo", "wish", "wish", "wish", "clean"])
    return (kind, names) + calls[kind]


def first_deeds(chance):
    given = [("give", name, 1) for name in NAMES[:3]]
    return given + [("cook", name, any_recipe(chance, NAMES[:place], 3)) for place, name in enumerate(NAMES[3:], 3)]


class Whole(Refusing):
    def test_against_the_plain_words(self):
        chance = random.Random(25)
        seen = {}
        for _ in range(150):
            history, plain = History(), PlainHistory()
            for deed in first_deeds(chance):
                getattr(history, deed[0])(*deed[1:])
                plain.deed(*deed)
            wished = []
            for _ in range(50):
                kind, names, call, plain_call = any_deed(chance, history, plain)
                told = answer(call)
                self.assertEqual(told, answer(plain_call))
                self.assertEqual(self.all_of(history), (
                    plain.house(), plain.made, plain.kept, plain.standing, plain.records))
                mark = (kind, told[0] if refused(told) else "")
                seen[mark] = seen.get(mark, 0) + 1
                if kind == "clean":
                    wished.clear()
                if mark == ("wish", ""):
                    seen["again"] = seen.get("again", 0) + self.held(history, names, told, wished)
        for mark in (("wish", ""), ("wish", "NoName"), ("wish", "Ring"), ("clean", ""), ("clean", "NoRecord"), "again",
                     ("drop", "NoName"), ("drop", ""), ("redo", ""), ("redo", "NoDeed"), ("undo", "")):
            self.assertGreater(seen.get(mark, 0), 20, seen)

    def held(self, history, names, told, wished):
        """Whether these names were wished for in this house before: then none is made."""
        house = history.house()
        fresh = fresh_build(house, names)
        self.assertEqual(told, [fresh[0][name] for name in names])
        self.assertEqual(sorted(history.made() + history.kept()), sorted(fresh[2]))
        again = (house, sorted(names)) in wished
        self.assertTrue(not again or history.made() == [])
        wished.append((house, sorted(names)))
        replay = replayed(history.deeds())
        self.assertEqual((replay.house(), replay.deeds()), (house, history.deeds()))
        self.assertTrue(all(is_true_record(record) for record in history.store_records()))
        return again

    def test_a_cleaning_leaves_the_needed_ones(self):
        chance = random.Random(26)
        done = 0
        for _ in range(300):
            history = history_of(first_deeds(chance))
            for number in (1, 2, 3):
                history.give("a", number)
                history.wish(NAMES)
            names = [chance.choice(NAMES) for _ in range(chance.randint(1, 3))]
            before = history.store_records()
            ought = needed(before, [(history.house(), names)])
            self.assertEqual(history.clean(names), len(ought))
            self.assertEqual(history.store_records(), ought)
            history.wish(names)
            self.assertEqual(history.made(), [])
            done += len(ought) < len(before)
        self.assertGreater(done, 100)


if __name__ == "__main__":
    unittest.main()
