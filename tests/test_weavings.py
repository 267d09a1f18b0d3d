"""Promises 2, 3, 22 and 23: builds by many hands."""

import copy
import random
import unittest

from madeagain.errors import MadeError, NoName, Ring
from madeagain.fresh import fresh_build
from madeagain.weavings import woven
from plain import (NAMES, PlainWeaving, all_different, answer, any_house, any_recipe, any_wishes, num, other_house,
                   read, refused)

RECIPES = {"s": ("plus", read("a"), read("b")), "t": ("times", read("s"), read("u")), "u": ("plus", read("s"), num(1)),
           "n": num(4), "p": ("pick", read("n"), read("u"), read("none"))}
HOUSE = ({"a": 2, "b": 5}, RECIPES)


def worths_of(trace):
    return {step[0]: step[2] for step in trace if step[1] == "known"}


def any_choices(chance):
    return [chance.choice([chance.randint(-9, 9), chance.randint(-10 ** 60, 10 ** 60)])
            for _ in range(chance.choice([0, 1, 3, 8, 40]))]


def tangled_house(chance):
    """Any name may look for any other: mostly rings."""
    return ({}, {name: any_recipe(chance, NAMES, chance.randint(1, 3)) for name in NAMES})


class Woven(unittest.TestCase):
    def test_by_no_choices(self):
        self.assertEqual(woven(HOUSE, ["s"], []), [("s", "known", 7)])
        self.assertEqual(woven(HOUSE, ["t"], []), [
            ("t", "waits", "s"), ("s", "known", 7), ("t", "waits", "u"), ("u", "known", 8), ("t", "known", 56)])
        self.assertEqual(woven(HOUSE, ["t", "u"], []), [
            ("t", "waits", "s"), ("u", "waits", "s"), ("s", "known", 7), ("t", "waits", "u"), ("u", "known", 8),
            ("t", "known", 56)])
        self.assertEqual(woven(HOUSE, ["u", "n", "t"], []), [
            ("u", "waits", "s"), ("n", "known", 4), ("t", "waits", "s"), ("s", "known", 7), ("u", "known", 8),
            ("t", "known", 56)])

    def test_its_kinds(self):
        trace = woven(HOUSE, ["t"], [1])
        self.assertIs(type(trace), list)
        self.assertEqual({type(step) for step in trace}, {tuple})

    def test_by_few_choices(self):
        self.assertEqual(woven(HOUSE, ["t", "u"], [1]), [
            ("u", "waits", "s"), ("t", "waits", "s"), ("s", "known", 7), ("t", "waits", "u"), ("u", "known", 8),
            ("t", "known", 56)])
        self.assertEqual(woven(HOUSE, ["t", "u"], [0, 0, 0, 1]), [
            ("t", "waits", "s"), ("u", "waits", "s"), ("s", "known", 7), ("u", "known", 8), ("t", "known", 56)])
        self.assertEqual(woven(HOUSE, ["t", "n", "u"], [2, 1, 1]), [
            ("u", "waits", "s"), ("n", "known", 4), ("s", "known", 7), ("t", "waits", "u"), ("u", "known", 8),
            ("t", "known", 56)])

    def test_the_one_waited_for_is_begun_behind_the_others(self):
        self.assertEqual(woven(HOUSE, ["t", "n"], [0, 1])[:2], [("t", "waits", "s"), ("s", "known", 7)])
        self.assertEqual(woven(HOUSE, ["t", "n"], [0, 0])[:2], [("t", "waits", "s"), ("n", "known", 4)])

    def test_choices_of_any_sign_and_size(self):
        for names in (["n", "s", "u"], ["s", "u", "n"]):
            for choice in (-1, 2, 5, -10 ** 60 - 2, 3 * 10 ** 60 + 2):
                self.assertEqual(woven(HOUSE, names, [choice])[0][0], names[choice % 3])
            self.assertEqual(woven(HOUSE, names, [-1]), woven(HOUSE, names, [2]))
            self.assertEqual(woven(HOUSE, names, [-3, -1]), woven(HOUSE, names, [0, 1]))

    def test_more_choices_than_steps(self):
        self.assertEqual(woven(HOUSE, ["t"], [3] * 100), woven(HOUSE, ["t"], []))
        self.assertEqual(woven(HOUSE, ["t", "u"], [1] + [0] * 100), woven(HOUSE, ["t", "u"], [1]))

    def test_wishes_that_stand_twice(self):
        for choices in ([], [1], [1, 1, 1, 1]):
            self.assertEqual(woven(HOUSE, ["t", "u", "t", "t", "u"], choices), woven(HOUSE, ["t", "u"], choices))

    def test_given_wishes(self):
        self.assertEqual(woven(HOUSE, ["a"], [1, 2]), [])
        self.assertEqual(woven(HOUSE, ["a", "n", "b", "a"], [1]), [("n", "known", 4)])

    def test_no_wishes(self):
        self.assertEqual(woven(HOUSE, [], []), [])
        self.assertEqual(woven(({}, {}), [], [1]), [])

    def test_a_name_that_waits_more_than_once(self):
        house = ({}, {"x": ("plus", ("plus", read("y"), read("z")), read("y")), "y": num(1), "z": read("y")})
        self.assertEqual(woven(house, ["x", "z"], []), [
            ("x", "waits", "y"), ("z", "waits", "y"), ("y", "known", 1), ("x", "waits", "z"), ("z", "known", 1),
            ("x", "known", 3)])

    def test_thirty_names(self):
        names = [first + second for first in "abc" for second in "abcdefghij"]
        house = ({}, {name: ("plus", read(ahead), num(1)) for ahead, name in zip(names, names[1:])})
        house[1][names[0]] = num(1)
        for choices in ([], [-1] * 500):
            trace = woven(house, names[::-1], choices)
            self.assertEqual(worths_of(trace), {name: place for place, name in enumerate(names, 1)})

    def test_long_numbers(self):
        house = ({"a": 10 ** 49}, {"b": ("times", read("a"), read("a"))})
        self.assertEqual(woven(house, ["b"], []), [("b", "known", 10 ** 98)])


class Refused(unittest.TestCase):
    def no_name(self, house, wishes, choices, lacking):
        with self.assertRaises(NoName) as caught:
            woven(house, wishes, choices)
        self.assertEqual(caught.exception.name, lacking)
        self.assertIsInstance(caught.exception, MadeError)

    def ring(self, house, wishes, choices, ring):
        with self.assertRaises(Ring) as caught:
            woven(house, wishes, choices)
        self.assertEqual(caught.exception.ring, ring)
        self.assertIsInstance(caught.exception, MadeError)

    def test_a_wish_that_is_none_ahead_of_all(self):
        house = ({}, {"r": read("r"), "u": read("none")})
        for choices in ([], [1], [-1, 2]):
            self.no_name(house, ["r", "u", "more", "other"], choices, "more")
            self.no_name(house, ["u", "other", "more"], choices, "other")
        self.no_name(({}, {}), ["a"], [], "a")

    def test_no_name_on_the_way(self):
        house = (HOUSE[0], {**RECIPES, "n": num(0), "u": read("far")})
        self.no_name(house, ["p"], [], "none")
        self.no_name(house, ["p", "u"], [], "far")
        self.no_name(house, ["p", "u"], [0, 1], "none")
        self.no_name(house, ["p", "u"], [0, 1, 0], "none")

    def test_what_is_not_looked_for_is_not_refused(self):
        self.assertEqual(worths_of(woven(HOUSE, ["p"], [])), {"p": 8, "n": 4, "u": 8, "s": 7})

    def test_rings(self):
        house = ({}, {"a": read("b"), "b": ("plus", num(1), read("c")), "c": read("a"), "d": num(1), "s": read("s")})
        self.ring(house, ["a"], [], ["a", "b", "c", "a"])
        self.ring(house, ["d", "c"], [], ["c", "a", "b", "c"])
        self.ring(house, ["s"], [], ["s", "s"])
        self.ring(house, ["s", "a"], [], ["s", "s"])
        self.ring(house, ["a", "s"], [1], ["a", "b", "c", "a"])

    def test_a_ring_does_not_begin_ahead_of_where_it_closes(self):
        house = ({}, {"a": read("b"), "b": read("c"), "c": read("b"), "x": read("a")})
        self.ring(house, ["a"], [], ["b", "c", "b"])
        self.ring(house, ["x", "c"], [], ["c", "b", "c"])
        self.ring(house, ["x", "c"], [1], ["c", "b", "c"])

    def test_the_first_begun_of_those_on_a_ring(self):
        house = ({}, {"a": read("b"), "b": read("a"), "c": read("d"), "d": read("c"), "x": read("b"), "y": read("d")})
        self.ring(house, ["x", "y"], [], ["b", "a", "b"])
        self.ring(house, ["x", "y"], [1], ["d", "c", "d"])
        self.ring(house, ["x", "y", "a"], [], ["a", "b", "a"])
        self.ring(house, ["y", "x", "c"], [], ["c", "d", "c"])

    def test_a_ring_shows_only_where_none_may_go_on(self):
        house = ({}, {"r": read("r"), "x": ("plus", read("y"), read("none")), "y": num(1)})
        for choices in ([], [0, 0, 0], [1, 1, 1], [-1, 0, 1]):
            self.no_name(house, ["r", "x"], choices, "none")
        house[1]["x"] = read("y")
        self.ring(house, ["r", "x"], [], ["r", "r"])

    def test_a_ring_that_a_fresh_build_meets_as_no_name(self):
        house = ({}, {"x": ("plus", read("y"), read("none")), "y": read("x"), "z": read("none")})
        self.ring(house, ["x"], [], ["x", "y", "x"])
        self.no_name(house, ["x", "z"], [], "none")
        self.assertEqual(answer(lambda: fresh_build(house, ["x", "z"])), ("Ring", ["x", "y", "x"]))


class Whole(unittest.TestCase):
    def test_against_the_plain_words_and_fresh_builds(self):
        chance = random.Random(22)
        kinds = {"NoName": 0, "Ring": 0, "told": 0, "one each": 0}
        for turn in range(4000):
            house = other_house(chance, any_house(chance)) if turn % 4 else tangled_house(chance)
            wishes = any_wishes(chance) + [chance.choice(NAMES + NAMES + NAMES + ["none"])]
            choices = any_choices(chance)
            before = copy.deepcopy((house, wishes, choices))
            told = answer(lambda: woven(house, wishes, choices))
            self.assertEqual(told, answer(lambda: PlainWeaving(house, wishes).woven(choices)), before)
            self.assertEqual((house, wishes, choices), before)
            self.assertEqual(answer(lambda: woven(house, wishes, choices)), told)
            fresh = answer(lambda: fresh_build(house, wishes))
            if refused(told):
                self.assertTrue(refused(fresh), before)
                kinds[told[0]] += 1
                kinds["one each"] += told[0] != fresh[0]
                continue
            self.held_against_fresh(house, told, fresh)
            kinds["told"] += 1
        self.assertTrue(min(kinds.values()) > 20, kinds)

    def held_against_fresh(self, house, trace, fresh):
        known = [step[0] for step in trace if step[1] == "known"]
        self.assertEqual(sorted(known), sorted(fresh[2]))
        self.assertEqual(worths_of(trace), {name: fresh[0][name] for name in fresh[2]})
        for name, kind, other in trace:
            if kind == "waits":
                self.assertIn(other, dict(fresh[1][name][1]))
                self.assertLess(known.index(other), known.index(name))

    def test_what_is_told_is_the_askers_own(self):
        choices = [1, 2]
        wishes = ["t", "u"]
        first = woven(HOUSE, wishes, choices)
        second = woven(HOUSE, wishes, choices)
        self.assertTrue(all_different([first, second, HOUSE, wishes, choices]))
        before = list(second)
        first.clear()
        self.assertEqual(second, before)
        self.assertEqual(woven(HOUSE, wishes, choices), before)

    def test_a_told_trace_is_not_changed_with_what_was_handed_in(self):
        house = ({"a": 1}, {"n": read("a")})
        trace = woven(house, ["n"], [])
        house[0].clear()
        house[1].clear()
        self.assertEqual(trace, [("n", "known", 1)])


if __name__ == "__main__":
    unittest.main()
