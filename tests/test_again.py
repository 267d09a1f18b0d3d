"""Promises 2, 10 and 11: builds from records."""

import copy
import random
import unittest

from madeagain.again import build_again
from madeagain.errors import MadeError, NoName, Ring
from madeagain.fresh import fresh_build
from plain import (NAMES, PlainAgain, all_different, answer, any_house, any_records, any_wishes, num, read, refused)

HALVES = {
    "b": ("plus", read("a"), num(1)),
    "c": ("pick", read("a"), num(7), num(8)),
    "d": ("times", read("b"), read("c")),
    "e": ("plus", read("c"), num(0)),
    "f": ("plus", read("e"), read("e")),
}
HOUSE = ({"a": 1, "z": 0}, HALVES)


def records_of(house, wishes):
    return fresh_build(house, wishes)[1]


def with_given(house, **numbers):
    return ({**house[0], **numbers}, house[1])


def with_recipes(house, **recipes):
    return (house[0], {**house[1], **recipes})


class Again(unittest.TestCase):
    def build(self, house, records, wishes):
        told = build_again(house, records, wishes)
        fresh = fresh_build(house, wishes)
        self.assertEqual(told[:2], fresh[:2])
        self.assertEqual(sorted(told[2] + told[3]), sorted(fresh[2]))
        return told[2:]

    def test_its_kinds(self):
        told = build_again(HOUSE, records_of(HOUSE, ["d"]), ["d", "f"])
        self.assertIs(type(told), tuple)
        self.assertEqual([type(part) for part in told], [dict, dict, list, list])
        for record in told[1].values():
            self.assertEqual([type(record)] + [type(part) for part in record], [tuple, tuple, list, int])

    def test_from_no_records(self):
        self.assertEqual(self.build(HOUSE, {}, ["d", "f"]), (["b", "c", "d", "e", "f"], []))
        self.assertEqual(self.build(HOUSE, {}, ["f", "d"]), (["c", "e", "f", "b", "d"], []))

    def test_from_the_same_house(self):
        records = records_of(HOUSE, ["d", "f"])
        self.assertEqual(self.build(HOUSE, records, ["d", "f"]), ([], ["b", "c", "d", "e", "f"]))
        self.assertEqual(self.build(HOUSE, records, ["f", "d"]), ([], ["c", "e", "f", "b", "d"]))
        self.assertEqual(self.build(HOUSE, records, ["e"]), ([], ["c", "e"]))
        self.assertEqual(self.build(HOUSE, records_of(HOUSE, ["d"]), ["f", "d"]), (["e", "f"], ["c", "b", "d"]))

    def test_from_other_given_numbers(self):
        records = records_of(HOUSE, ["d", "f"])
        now = with_given(HOUSE, a=2)
        self.assertEqual(self.build(now, records, ["d", "f"]), (["b", "c", "d"], ["e", "f"]))
        self.assertEqual(self.build(now, records, ["f"]), (["c"], ["e", "f"]))
        now = with_given(HOUSE, a=-1)
        self.assertEqual(self.build(now, records, ["f", "d"]), (["c", "e", "f", "b", "d"], []))
        self.assertEqual(self.build(with_given(HOUSE, z=5), records, ["f"]), ([], ["c", "e", "f"]))

    def test_from_other_recipes(self):
        records = records_of(HOUSE, ["d", "f"])
        now = with_recipes(HOUSE, c=("pick", read("a"), num(7), num(9)))
        self.assertEqual(self.build(now, records, ["d", "f"]), (["c"], ["b", "d", "e", "f"]))
        now = with_recipes(HOUSE, c=num(3))
        self.assertEqual(self.build(now, records, ["d", "f"]), (["c", "d", "e", "f"], ["b"]))

    def test_a_recipe_of_the_same_numbers_in_another_form_is_another(self):
        records = records_of(({"a": 1}, {"b": ("plus", read("a"), num(1))}), ["b"])
        self.assertEqual(self.build(({"a": 1}, {"b": ("plus", num(1), read("a"))}), records, ["b"]), (["b"], []))

    def test_of_one_by_another_recipe_nothing_else_is_looked_at(self):
        for rest in (([("none", 1)], 2), (None, None), ("none", "none"), ([("b", 1)], 3), (7, [])):
            records = {"b": (num(9),) + rest}
            self.assertEqual(self.build(HOUSE, records, ["b"]), (["b"], []), rest)

    def test_names_that_are_given_now(self):
        records = records_of(HOUSE, ["d", "f"])
        now = ({"a": 1, "c": 7}, {name: r for name, r in HALVES.items() if name != "c"})
        self.assertEqual(self.build(now, records, ["d", "f", "c"]), ([], ["b", "d", "e", "f"]))
        now[0]["c"] = 6
        self.assertEqual(self.build(now, records, ["d", "f", "c"]), (["d", "e", "f"], ["b"]))

    def test_names_that_were_given(self):
        records = records_of(HOUSE, ["d"])
        now = ({}, {**HALVES, "a": num(1)})
        self.assertEqual(self.build(now, records, ["d"]), (["a"], ["b", "c", "d"]))

    def test_names_that_are_none_now(self):
        records = records_of(HOUSE, ["d", "f"])
        now = (HOUSE[0], {"c": HALVES["c"], "d": read("c")})
        self.assertEqual(self.build(now, records, ["d"]), (["d"], ["c"]))

    def test_records_of_houses_that_do_not_fit_together(self):
        house = ({"a": 1}, {"b": read("a"), "c": read("b"), "d": read("c")})
        records = {"b": (read("a"), [("a", 5)], 5), "c": (read("b"), [("b", 1)], 1), "d": (read("c"), [("c", 6)], 6)}
        self.assertEqual(self.build(house, records, ["d"]), (["b", "d"], ["c"]))

    def test_what_is_read_next_hangs_on_what_was_read(self):
        recipes = {"b": ("pick", read("a"), read("s"), read("t")), "s": read("g"), "t": read("g")}
        house = ({"a": 1, "g": 4}, recipes)
        records = records_of(house, ["b"])
        told = build_again(({"a": 0, "g": 4}, recipes), records, ["b"])
        self.assertEqual(told[0], {"a": 0, "b": 4, "t": 4, "g": 4})
        self.assertEqual(told[1]["b"], (recipes["b"], [("a", 0), ("t", 4)], 4))
        self.assertEqual(told[2:], (["t", "b"], []))

    def test_behind_the_first_unlike_read_nothing_of_the_record_is_gone_to(self):
        recipes = {"b": ("pick", read("a"), read("s"), num(0))}
        records = records_of(({"a": 1, "s": 2}, recipes), ["b"])
        told = build_again(({"a": 0}, recipes), records, ["b"])
        self.assertEqual(told, ({"a": 0, "b": 0}, {"b": (recipes["b"], [("a", 0)], 0)}, ["b"], []))

    def test_kept_with_the_records_worth(self):
        house = ({"a": 1}, {"b": read("a"), "c": read("b"), "n": num(3)})
        records = {"b": (read("a"), [("a", 1)], 40), "n": (num(3), [], 50)}
        told = build_again(house, records, ["c", "n"])
        self.assertEqual(told[0], {"a": 1, "b": 40, "c": 40, "n": 50})
        self.assertEqual(told[2:], (["c"], ["b", "n"]))

    def test_wishes(self):
        records = records_of(HOUSE, ["f"])
        self.assertEqual(build_again(HOUSE, records, []), ({}, {}, [], []))
        self.assertEqual(build_again(HOUSE, records, ["a", "z"]), ({"a": 1, "z": 0}, {}, [], []))
        self.assertEqual(build_again(HOUSE, records, ["d", "a", "d", "e", "e"]), build_again(HOUSE, records, ["d", "e"]))


class Refused(unittest.TestCase):
    def no_name(self, house, records, wishes, lacking):
        for call in (lambda: build_again(house, records, wishes), lambda: fresh_build(house, wishes)):
            with self.assertRaises(NoName) as caught:
                call()
            self.assertEqual(caught.exception.name, lacking)
            self.assertIsInstance(caught.exception, MadeError)

    def ring(self, house, records, wishes, ring):
        for call in (lambda: build_again(house, records, wishes), lambda: fresh_build(house, wishes)):
            with self.assertRaises(Ring) as caught:
                call()
            self.assertEqual(caught.exception.ring, ring)
            self.assertIsInstance(caught.exception, MadeError)

    def test_a_wish_that_is_none(self):
        self.no_name(HOUSE, {}, ["none"], "none")
        self.no_name(HOUSE, {"none": (num(1), [], 1)}, ["d", "none"], "none")

    def test_a_read_that_is_none_now(self):
        records = records_of(HOUSE, ["d"])
        self.no_name(({}, HALVES), records, ["d"], "a")
        self.no_name(({"a": 1}, {"d": HALVES["d"]}), records, ["d"], "b")

    def test_one_looked_for_after_an_unlike_read(self):
        recipes = {"b": ("pick", read("a"), num(1), read("none"))}
        records = records_of(({"a": 1}, recipes), ["b"])
        self.no_name(({"a": 0}, recipes), records, ["b"], "none")

    def test_a_ring_by_way_of_records(self):
        records = records_of(({"a": 1}, {"b": read("a"), "c": read("b"), "d": read("c")}), ["d"])
        house = ({}, {"a": read("c"), "b": read("a"), "c": read("b"), "d": read("c")})
        self.ring(house, records, ["d"], ["c", "b", "a", "c"])
        self.ring(house, records, ["a"], ["a", "c", "b", "a"])
        self.ring(({}, {"a": read("a")}), records, ["a"], ["a", "a"])

    def test_a_ring_after_an_unlike_read(self):
        recipes = {"b": ("pick", read("a"), num(1), read("c")), "c": read("b")}
        records = records_of(({"a": 1}, recipes), ["c"])
        self.ring(({"a": 0}, recipes), records, ["c"], ["c", "b", "c"])


class Whole(unittest.TestCase):
    def test_against_the_plain_words_and_fresh_builds(self):
        chance = random.Random(10)
        kinds = {"NoName": 0, "Ring": 0, "made": 0, "kept": 0, "both": 0}
        for _ in range(3000):
            house = any_house(chance)
            records = any_records(chance, house)
            wishes = any_wishes(chance) + [chance.choice(NAMES)]
            before = copy.deepcopy((house, records, wishes))
            told = answer(lambda: build_again(house, records, wishes))
            self.assertEqual(told, answer(lambda: PlainAgain(house, records).build(wishes)), before)
            self.assertEqual((house, records, wishes), before)
            fresh = answer(lambda: fresh_build(house, wishes))
            if refused(fresh):
                self.assertEqual(told, fresh, before)
                kinds[told[0]] += 1
                continue
            self.assertEqual(told[:2], fresh[:2], before)
            self.assertEqual(told[2], [name for name in fresh[2] if name in told[2]])
            self.assertEqual(told[3], [name for name in fresh[2] if name not in told[2]])
            self.only_what_must_be_is_made(house, records, told)
            kinds["both" if told[2] and told[3] else "made" if told[2] else "kept"] += 1
        self.assertTrue(min(kinds.values()) > 50, kinds)

    def only_what_must_be_is_made(self, house, records, told):
        for name in told[1]:
            old = records.get(name, (None, None, None))
            holds = old[0] == house[1][name] and all(told[0].get(other) == number for other, number in old[1])
            self.assertEqual((name in told[2], name in told[3]), (not holds, holds), (house, records, name))

    def test_what_is_told_is_the_askers_own(self):
        shared = (num(3), [], 3)
        house = with_recipes(HOUSE, p=num(3), q=num(3))
        records = {**records_of(HOUSE, ["d", "f"]), "p": shared, "q": shared}
        wishes = ["d", "f", "p", "q"]
        first = build_again(house, records, wishes)
        second = build_again(house, records, wishes)
        self.assertEqual(first[2], [])
        self.assertTrue(all_different([first, second, house, wishes, {**records, "q": None}]))
        before = copy.deepcopy((records, second))
        for record in first[1].values():
            record[1].append("more")
        for part in first:
            part.clear()
        self.assertEqual((records, second), before)
        self.assertEqual(build_again(house, records, wishes), second)

    def test_told_records_serve_the_next_build(self):
        records = {}
        house = HOUSE
        for number in (1, 2, 2, -1, 1):
            house = with_given(HOUSE, a=number)
            told = build_again(house, records, ["d", "f"])
            self.assertEqual(told[:2], fresh_build(house, ["d", "f"])[:2])
            records = told[1]
        self.assertEqual(build_again(house, records, ["f", "d"])[2], [])

    def test_a_told_build_is_not_changed_with_what_was_handed_in(self):
        house = ({"g": 1}, {"a": read("g")})
        records = records_of(house, ["a"])
        told = build_again(house, records, ["a"])
        records["a"][1].append(("more", 1))
        records.clear()
        house[0].clear()
        house[1].clear()
        self.assertEqual(told, ({"g": 1, "a": 1}, {"a": (read("g"), [("g", 1)], 1)}, [], ["a"]))


if __name__ == "__main__":
    unittest.main()
