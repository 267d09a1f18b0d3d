"""Promises 2, 3 and 19 to 21: stores of true records, and builds from them."""

import copy
import random
import unittest

from madeagain.again import build_again
from madeagain.behind import is_true_record
from madeagain.errors import MadeError, NoName, NoRecord, Ring
from madeagain.fresh import fresh_build
from madeagain.stores import Store
from plain import (NAMES, PlainStored, all_different, answer, any_house, any_records, any_wishes, num, other_house,
                   read, refused)

SUM = ("plus", read("a"), read("b"))
FIVE = (num(5), [], 5)
THREE = (SUM, [("a", 1), ("b", 2)], 3)
FOUR = (SUM, [("a", 2), ("b", 2)], 4)
NOT_TRUE = [None, True, 7, "5 [] = 5", [], (), {}, object(), [num(5), [], 5], (num(5), [], 6), (num(5), (), 5),
            (num(5), []), (num(5), [], 5, 5), (num(1), [], True), (num(True), [], 1), (SUM, [("a", 1)], 1),
            (SUM, [("b", 2), ("a", 1)], 3), (SUM, [("a", 1), ["b", 2]], 3), (SUM, [("a", 1), ("b", True)], 2)]

HALVES = {
    "b": ("plus", read("a"), num(1)),
    "c": ("pick", read("a"), num(7), num(8)),
    "d": ("times", read("b"), read("c")),
    "e": ("plus", read("c"), num(0)),
    "f": ("plus", read("e"), read("e")),
}
HOUSE = ({"a": 1, "z": 0}, HALVES)


def store_of(records):
    store = Store()
    for record in records:
        store.put(record)
    return store


def built(house, wishes):
    store = Store()
    store.build(house, wishes)
    return store


class Puts(unittest.TestCase):
    def test_empty(self):
        self.assertEqual((Store().records(), Store().size()), ([], 0))

    def test_once_and_twice(self):
        store = Store()
        self.assertIs(store.put(THREE), True)
        self.assertIs(store.put(FIVE), True)
        self.assertIs(store.put(THREE), False)
        self.assertIs(store.put(FOUR), True)
        self.assertIs(store.put(copy.deepcopy(FIVE)), False)
        self.assertEqual(store.records(), [THREE, FIVE, FOUR])
        self.assertEqual(store.size(), 3)

    def test_put_that_are_none(self):
        store = store_of([FIVE])
        for thing in NOT_TRUE:
            with self.assertRaises(NoRecord) as caught:
                store.put(thing)
            self.assertIsInstance(caught.exception, MadeError)
            self.assertEqual(store.records(), [FIVE])

    def test_taken(self):
        store = store_of([FIVE])
        self.assertEqual(store.take([THREE, None, FIVE, "a", FOUR, THREE, []]), [1, 3, 6])
        self.assertEqual(store.records(), [FIVE, THREE, FOUR])
        self.assertEqual(store.take([THREE, FOUR]), [])
        self.assertEqual(store.take([]), [])
        self.assertEqual(store.take(list(NOT_TRUE)), list(range(len(NOT_TRUE))))
        self.assertEqual(store.size(), 3)

    def test_taken_from_another_store(self):
        store = Store()
        self.assertEqual(store.take(store_of([FIVE, FOUR]).records()), [])
        self.assertEqual(store.take(store.records()), [])
        self.assertEqual(store.records(), [FIVE, FOUR])

    def test_two_stores_are_apart(self):
        first = Store()
        second = Store()
        first.put(FIVE)
        self.assertEqual(second.records(), [])

    def test_what_was_handed_in_and_is_changed_later(self):
        reads = [("a", 1), ("b", 2)]
        store = Store()
        store.put((SUM, reads, 3))
        reads.clear()
        self.assertEqual(store.records(), [THREE])
        reads = [("a", 2), ("b", 2)]
        things = [(SUM, reads, 4)]
        store.take(things)
        reads[0] = ("a", 7)
        things.clear()
        self.assertEqual(store.records(), [THREE, FOUR])
        self.assertIs(store.put(FOUR), False)
        self.assertEqual(store.build(({"a": 2, "b": 2}, {"c": SUM}), ["c"])[1:], ([], ["c"]))

    def test_what_is_told_is_the_askers_own(self):
        store = store_of([THREE, FOUR, FIVE])
        first = store.records()
        second = store.records()
        self.assertTrue(all_different([first, second, THREE, FOUR, FIVE, store.take([1]), store.take([1])]))
        first[0][1].clear()
        first.clear()
        self.assertEqual(second, [THREE, FOUR, FIVE])
        self.assertEqual(store.records(), [THREE, FOUR, FIVE])

    def test_nothing_handed_in_is_changed(self):
        things = [FIVE, None, THREE, [1]]
        before = copy.deepcopy(things)
        Store().take(things)
        self.assertEqual(things, before)

    def test_their_kinds(self):
        for record in built(HOUSE, ["d", "f"]).records():
            self.assertEqual([type(record)] + [type(part) for part in record], [tuple, tuple, list, int])
            self.assertIs(is_true_record(record), True)


class Builds(unittest.TestCase):
    def build(self, store, house, wishes):
        told = store.build(house, wishes)
        self.assertEqual([type(told)] + [type(part) for part in told], [tuple, dict, list, list])
        fresh = fresh_build(house, wishes)
        self.assertEqual(told[0], fresh[0])
        self.assertEqual(sorted(told[1] + told[2]), sorted(fresh[2]))
        for record in fresh[1].values():
            self.assertIs(store.put(record), False)
        return told[1:]

    def test_from_an_empty_store(self):
        store = Store()
        self.assertEqual(self.build(store, HOUSE, ["d", "f"]), (["b", "c", "d", "e", "f"], []))
        fresh = fresh_build(HOUSE, ["d", "f"])
        self.assertEqual(store.records(), [fresh[1][name] for name in fresh[2]])

    def test_built_again_nothing_is_made(self):
        store = built(HOUSE, ["d", "f"])
        before = store.records()
        self.assertEqual(self.build(store, HOUSE, ["d", "f"]), ([], ["b", "c", "d", "e", "f"]))
        self.assertEqual(self.build(store, HOUSE, ["f", "d"]), ([], ["c", "e", "f", "b", "d"]))
        self.assertEqual(self.build(store, HOUSE, ["e"]), ([], ["c", "e"]))
        self.assertEqual(store.records(), before)

    def test_other_given_numbers(self):
        store = built(HOUSE, ["d", "f"])
        two = ({"a": 2}, HALVES)
        self.assertEqual(self.build(store, two, ["d", "f"]), (["b", "c", "d"], ["e", "f"]))
        self.assertEqual(store.size(), 8)
        self.assertEqual(self.build(store, two, ["d", "f"]), ([], ["b", "c", "d", "e", "f"]))
        self.assertEqual(self.build(store, HOUSE, ["d", "f"]), ([], ["b", "c", "d", "e", "f"]))
        self.assertEqual(self.build(store, ({"a": -1}, HALVES), ["f", "d"]), (["c", "e", "f", "b", "d"], []))
        self.assertEqual(self.build(store, ({"a": -2}, HALVES), ["f", "d"]), (["c", "b", "d"], ["e", "f"]))

    def test_other_recipes(self):
        store = built(HOUSE, ["d", "f"])
        now = (HOUSE[0], {**HALVES, "c": ("pick", read("a"), num(7), num(9))})
        self.assertEqual(self.build(store, now, ["d", "f"]), (["c"], ["b", "d", "e", "f"]))
        self.assertEqual(self.build(store, HOUSE, ["d", "f"]), ([], ["b", "c", "d", "e", "f"]))
        now = (HOUSE[0], {**HALVES, "c": num(3)})
        self.assertEqual(self.build(store, now, ["d", "f"]), (["c", "d", "e", "f"], ["b"]))

    def test_records_of_the_same_recipe_under_other_names(self):
        store = built(({"a": 1, "b": 2}, {"c": SUM}), ["c"])
        self.assertEqual(self.build(store, ({"a": 1, "b": 2}, {"x": SUM, "y": SUM}), ["x", "y"]), ([], ["x", "y"]))
        self.assertEqual(self.build(store, ({"a": 3, "b": 2}, {"x": SUM, "y": SUM}), ["y", "x"]), (["y"], ["x"]))
        self.assertEqual(store.size(), 2)

    def test_the_same_recipe_twice_in_one_build(self):
        house = ({"a": 1, "b": 2}, {"x": SUM, "y": SUM, "z": ("times", read("y"), read("x"))})
        self.assertEqual(self.build(Store(), house, ["z"]), (["y", "z"], ["x"]))

    def test_what_is_read_next_hangs_on_what_was_read(self):
        r = ("pick", read("a"), read("s"), read("t"))
        store = store_of([(r, [("a", 1), ("s", 5)], 5), (r, [("a", 0), ("t", 5)], 5), (r, [("a", 2), ("s", 6)], 6)])
        recipes = {"n": r, "s": num(6), "t": num(5)}
        self.assertEqual(self.build(store, ({"a": 2}, recipes), ["n"]), (["s"], ["n"]))
        self.assertEqual(self.build(store, ({"a": 0}, recipes), ["n"]), (["t"], ["n"]))
        self.assertEqual(self.build(store, ({"a": 1}, recipes), ["n"]), (["n"], ["s"]))
        self.assertEqual(self.build(store, ({"a": 3}, recipes), ["n"]), (["n"], ["s"]))
        self.assertEqual(self.build(store, ({"a": 3}, recipes), ["n"]), ([], ["s", "n"]))

    def test_one_record_of_many_fits(self):
        store = store_of([(SUM, [("a", a), ("b", b)], a + b) for a in range(4) for b in range(4) if a + b != 3])
        for a in range(5):
            for b in range(5):
                kept = a < 4 and b < 4 and a + b != 3
                self.assertEqual(self.build(store_of(store.records()), ({"a": a, "b": b}, {"n": SUM}), ["n"]),
                                 ([], ["n"]) if kept else (["n"], []))

    def test_records_that_are_of_no_use(self):
        store = store_of([FIVE, THREE, FOUR])
        self.assertEqual(self.build(store, HOUSE, ["d"]), (["b", "c", "d"], []))
        self.assertEqual(store.records()[:3], [FIVE, THREE, FOUR])

    def test_wishes(self):
        store = built(HOUSE, ["d"])
        self.assertEqual(store.build(HOUSE, []), ({}, [], []))
        self.assertEqual(store.build(HOUSE, ["z", "a", "z"]), ({"z": 0, "a": 1}, [], []))
        self.assertEqual(self.build(store, HOUSE, ["e", "d", "e", "d", "a"]), (["e"], ["c", "b", "d"]))

    def test_the_order_in_which_they_are_settled(self):
        house = ({"g": 1}, {"a": ("plus", read("b"), read("c")), "b": read("d"), "c": ("times", read("d"), num(1)),
                            "d": read("g"), "e": read("a"), "f": num(0)})
        self.assertEqual(self.build(Store(), house, ["f", "c", "e", "b"]), (["f", "d", "c", "b", "a", "e"], []))
        store = built(house, ["a"])
        self.assertEqual(self.build(store, house, ["f", "e", "b"]), (["f", "e"], ["d", "b", "c", "a"]))

    def test_a_recipe_somewhat_beyond_the_bounds(self):
        r = read("a")
        for _ in range(8):
            r = ("plus", r, num(1))
        store = Store()
        self.assertEqual(self.build_beyond(store, r), ({"a": 1, "n": 9}, ["n"], []))
        self.assertEqual(self.build_beyond(store, r), ({"a": 1, "n": 9}, [], ["n"]))

    def build_beyond(self, store, r):
        return store.build(({"a": 1}, {"n": r}), ["n"])

    def test_what_is_told_is_the_askers_own(self):
        store = built(HOUSE, ["d"])
        wishes = ["d", "f"]
        first = copy.deepcopy(store).build(HOUSE, wishes)
        second = copy.deepcopy(store).build(HOUSE, wishes)
        third = store.build(HOUSE, wishes)
        self.assertTrue(all_different([first, second, third, HOUSE, wishes, store.records()]))
        self.assertTrue(first == second == third)
        before = store.records()
        for part in first + third:
            part.clear()
        self.assertEqual(store.records(), before)
        self.assertEqual(store.build(HOUSE, wishes), (second[0], [], ["b", "c", "d", "e", "f"]))

    def test_a_house_changed_later_changes_nothing_in_the_store(self):
        house = ({"a": 1, "b": 2}, {"n": SUM})
        store = built(house, ["n"])
        house[0]["a"] = 9
        house[1].clear()
        self.assertEqual(store.records(), [THREE])


class Refused(unittest.TestCase):
    def no_name(self, store, house, wishes, lacking):
        with self.assertRaises(NoName) as caught:
            store.build(house, wishes)
        self.assertEqual(caught.exception.name, lacking)

    def ring(self, store, house, wishes, ring):
        with self.assertRaises(Ring) as caught:
            store.build(house, wishes)
        self.assertEqual(caught.exception.ring, ring)

    def test_no_such_name(self):
        store = built(HOUSE, ["d"])
        self.no_name(store, HOUSE, ["none"], "none")
        self.no_name(store, ({}, HALVES), ["d"], "a")
        self.no_name(store, ({"a": 1}, {"d": HALVES["d"]}), ["d"], "b")
        self.no_name(store, (HOUSE[0], {"n": read("none")}), ["a", "n"], "none")

    def test_rings(self):
        store = built(({"a": 1}, {"b": read("a"), "c": read("b"), "d": read("c")}), ["d"])
        house = ({}, {"a": read("c"), "b": read("a"), "c": read("b"), "d": read("c")})
        self.ring(store, house, ["d"], ["c", "b", "a", "c"])
        self.ring(Store(), house, ["a"], ["a", "c", "b", "a"])
        self.ring(store, ({}, {"a": read("a")}), ["a"], ["a", "a"])

    def test_a_ring_of_one_recipe_under_two_names(self):
        house = ({"g": 1}, {"x": ("plus", read("g"), read("y")), "y": ("plus", read("g"), read("y"))})
        self.ring(Store(), house, ["x"], ["y", "y"])
        self.ring(store_of([(house[1]["x"], [("g", 1), ("y", 2)], 3)]), house, ["x"], ["y", "y"])

    def test_what_is_made_ahead_of_a_refusal_is_put(self):
        house = (HOUSE[0], {**HALVES, "u": ("plus", read("b"), read("none")), "r": ("plus", read("c"), read("r"))})
        store = Store()
        self.no_name(store, house, ["d", "u"], "none")
        fresh = fresh_build(HOUSE, ["d"])
        self.assertEqual(store.records(), [fresh[1][name] for name in fresh[2]])
        store = Store()
        self.no_name(store, house, ["u"], "none")
        self.assertEqual(store.records(), [fresh[1]["b"]])
        self.ring(store, house, ["r"], ["r", "r"])
        self.assertEqual(store.records(), [fresh[1]["b"], fresh[1]["c"]])
        self.assertEqual(store.build(HOUSE, ["d"])[1:], (["d"], ["b", "c"]))


class Whole(unittest.TestCase):
    def test_against_the_plain_words_and_fresh_builds(self):
        chance = random.Random(20)
        kinds = {"NoName": 0, "Ring": 0, "made": 0, "kept": 0, "both": 0}
        for _ in range(400):
            house = any_house(chance)
            store = Store()
            plain = []
            for record in any_records(chance, house).values():
                self.assertEqual(store.put(record), record not in plain)
                plain += [record] if record not in plain else []
            for _ in range(5):
                house = other_house(chance, house)
                self.one(chance, house, store, plain, kinds)
        self.assertTrue(min(kinds.values()) > 50, kinds)

    def one(self, chance, house, store, plain, kinds):
        wishes = any_wishes(chance) + [chance.choice(NAMES)]
        before = copy.deepcopy((house, wishes))
        ahead = store.records()
        told = answer(lambda: store.build(house, wishes))
        self.assertEqual(told, answer(lambda: PlainStored(house, plain).build(wishes)), before)
        self.assertEqual(store.records(), plain, before)
        self.assertEqual(store.size(), len(plain))
        self.assertEqual((house, wishes), before)
        fresh = answer(lambda: fresh_build(house, wishes))
        if refused(told):
            self.assertEqual(told, fresh)
            kinds[told[0]] += 1
            return
        self.held_against_fresh(told, fresh, ahead)
        self.assertEqual(store.build(house, wishes), (fresh[0], [], fresh[2]))
        self.assertEqual(store.records(), plain)
        self.assertEqual(build_again(house, fresh[1], wishes)[2], [])
        kinds["both" if told[1] and told[2] else "made" if told[1] else "kept"] += 1

    def held_against_fresh(self, told, fresh, ahead):
        self.assertEqual(told[0], fresh[0])
        self.assertEqual(told[1], [name for name in fresh[2] if name in told[1]])
        self.assertEqual(told[2], [name for name in fresh[2] if name not in told[1]])
        there = list(ahead)
        for name in fresh[2]:
            self.assertEqual(name in told[1], fresh[1][name] not in there)
            there.append(fresh[1][name])
        self.assertTrue(all(is_true_record(record) for record in there))


if __name__ == "__main__":
    unittest.main()
