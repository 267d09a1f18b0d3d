"""Promises 2, 3, 14 and 15: twins of records, and the reach of changes."""

import copy
import random
import unittest

from madeagain.again import build_again
from madeagain.errors import MadeError, NoName, NoRead, Ring
from madeagain.fresh import fresh_build
from madeagain.recipes import is_recipe, names_in
from madeagain.twins import reach_of, twin_of
from madeagain.worths import reads_of, worth_of
from plain import NAMES, all_different, answer, any_house, any_records, any_wishes, num, read, refused

LETTERS = "abcdefghijklmnopqrstuvwxyz"
MANY = ["n" + first + second for first in LETTERS for second in LETTERS]


def record_with(numbers, worth):
    """A record of so many reads. Its recipe is short where there are more than one can read."""
    return (read(MANY[0]), list(zip(MANY, numbers)), worth)


class Twins(unittest.TestCase):
    def twin_is_right(self, record, k):
        reads = record[1]
        twin = twin_of(record, k)
        self.assertIs(is_recipe(twin), True, (record, k))
        self.assertTrue(set(names_in(twin)) <= {name for name, number in reads})
        house = (dict(reads), {"twin": twin})
        self.assertEqual(reads_of(house, "twin"), reads)
        self.assertEqual(worth_of(house, "twin"), record[2])
        name, number = reads[k]
        for other in (number + 1, number - 1, -number, 0, 1, number * 2, number + 9, number + 2520, 10 ** 60, -10 ** 60):
            if other != number:
                changed = ({**dict(reads), name: other}, {"twin": twin})
                self.assertNotEqual(worth_of(changed, "twin"), record[2], (record, k, other))

    def test_of_short_records(self):
        self.twin_is_right((read("a"), [("a", 5)], 5), 0)
        self.twin_is_right((("plus", read("a"), read("b")), [("a", 1), ("b", -2)], -1), 0)
        self.twin_is_right((("plus", read("a"), read("b")), [("a", 1), ("b", -2)], -1), 1)

    def test_where_the_recipe_itself_comes_to_the_same(self):
        self.twin_is_right((("times", num(0), read("a")), [("a", 5)], 0), 0)
        self.twin_is_right((("pick", read("a"), num(3), num(4)), [("a", 5)], 3), 0)
        r = ("choose", read("x"), ("a", "b"))
        self.twin_is_right((r, [("x", 0), ("a", 7)], 7), 0)
        self.twin_is_right((r, [("x", 0), ("a", 7)], 7), 1)
        self.twin_is_right((("most", read("a"), read("b")), [("a", 5), ("b", 5)], 5), 0)

    def test_of_as_many_reads_as_a_house_has_names_and_more(self):
        chance = random.Random(14)
        for many in range(1, 74):
            record = record_with([chance.randint(-9, 9) for _ in range(many)], chance.randint(-99, 99))
            for k in range(many):
                self.twin_is_right(record, k)

    def test_of_noughts_and_of_long_numbers(self):
        for numbers in ([0] * 29, [10 ** 99 + n for n in range(29)], [-10 ** 99] * 29):
            for worth in (0, 1, -10 ** 99):
                for k in (0, 13, 28):
                    self.twin_is_right(record_with(numbers, worth), k)

    def test_of_the_records_of_builds(self):
        chance = random.Random(3)
        done = 0
        for _ in range(300):
            told = answer(lambda: fresh_build(any_house(chance), NAMES))
            if not refused(told):
                for record in told[1].values():
                    for k in range(len(record[1])):
                        self.twin_is_right(record, k)
                        done += 1
        self.assertTrue(done > 300, done)

    def test_where_one_is_made_for_a_read_its_twin_comes_to_another_number(self):
        recipes = {"b": ("pick", read("a"), num(3), num(4))}
        records = fresh_build(({"a": 5}, recipes), ["b"])[1]
        self.assertEqual(build_again(({"a": 6}, recipes), records, ["b"])[2], ["b"])
        twin = twin_of(records["b"], 0)
        self.assertEqual(fresh_build(({"a": 5}, {"b": twin}), ["b"])[1]["b"][1:], records["b"][1:])
        self.assertNotEqual(worth_of(({"a": 6}, {"b": twin}), "b"), 3)

    def no_read(self, record, k):
        with self.assertRaises(NoRead) as caught:
            twin_of(record, k)
        self.assertIsInstance(caught.exception, MadeError)

    def test_no_such_read(self):
        record = (("plus", read("a"), read("b")), [("a", 1), ("b", 2)], 3)
        for k in (-1, -2, -3, 2, 3, 100, 10 ** 40, -10 ** 40):
            self.no_read(record, k)

    def test_no_reads_at_all(self):
        for k in (0, 1, -1):
            self.no_read((num(5), [], 5), k)

    def test_more_reads_than_a_recipe_can_have(self):
        for many in (79, 100, 101, 500):
            for k in (0, 1, many // 2, many - 1):
                self.no_read(record_with([1] * many, 1), k)

    def test_a_name_that_no_recipe_can_read_a_second_time(self):
        self.no_read((read("a"), [("a", 1), ("b", 2), ("a", 1)], 1), 1)

    def test_nothing_is_changed_and_the_same_is_told_again(self):
        record = (("plus", read("a"), read("b")), [("a", 1), ("b", 2)], 3)
        before = copy.deepcopy(record)
        self.assertEqual(twin_of(record, 1), twin_of(copy.deepcopy(record), 1))
        self.no_read(record, 2)
        self.assertEqual(record, before)


RECIPES = {"b": ("plus", read("a"), num(1)), "c": ("pick", read("a"), num(7), num(8)), "d": ("times", read("b"), read("c")),
           "e": ("plus", read("c"), num(0))}
HOUSE = ({"a": 1, "g": 4}, RECIPES)
RECORDS = fresh_build(HOUSE, ["d", "e"])[1]


class Reach(unittest.TestCase):
    def test_of_other_numbers(self):
        self.assertEqual(reach_of(HOUSE, RECORDS, ["d", "e"], {"a": 2}), (["b", "c", "d"], ["b", "d"]))
        self.assertEqual(reach_of(HOUSE, RECORDS, ["e", "d"], {"a": -1}), (["c", "e", "b", "d"], ["c", "e", "b", "d"]))
        self.assertEqual(reach_of(HOUSE, RECORDS, ["e"], {"a": 2}), (["c"], []))
        self.assertEqual(reach_of(HOUSE, RECORDS, ["d"], {"g": 5}), ([], []))

    def test_of_numbers_as_they_are_and_of_none(self):
        for changes in ({}, {"a": 1}, {"a": 1, "g": 4}):
            self.assertEqual(reach_of(HOUSE, RECORDS, ["d", "e"], changes), ([], []))

    def test_without_wishes(self):
        self.assertEqual(reach_of(HOUSE, RECORDS, [], {"a": 2}), ([], []))
        self.assertEqual(reach_of(HOUSE, RECORDS, ["a", "g"], {"a": 2}), ([], []))

    def test_without_records(self):
        self.assertEqual(reach_of(HOUSE, {}, ["d"], {"a": 2}), (["b", "c", "d"], []))
        self.assertEqual(reach_of(HOUSE, {}, ["d"], {}), (["b", "c", "d"], []))

    def test_records_by_whatever_recipe(self):
        house = (HOUSE[0], {**RECIPES, "c": num(7), "b": num(3)})
        self.assertEqual(reach_of(house, RECORDS, ["d"], {}), (["b", "c", "d"], ["b", "d"]))
        self.assertEqual(reach_of(house, {"b": (num(0), None, 3), "c": (num(0), None, 6)}, ["d"], {}),
                         (["b", "c", "d"], ["c"]))

    def test_the_given_numbers_of_the_house_stay(self):
        house = copy.deepcopy(HOUSE)
        changes = {"a": -1}
        records = copy.deepcopy(RECORDS)
        wishes = ["d"]
        reach_of(house, records, wishes, changes)
        self.assertEqual((house, records, wishes, changes), (HOUSE, RECORDS, ["d"], {"a": -1}))

    def test_refused_as_worths_are(self):
        with self.assertRaises(NoName) as caught:
            reach_of(HOUSE, RECORDS, ["none"], {"a": 2})
        self.assertEqual(caught.exception.name, "none")
        recipes = {"b": ("pick", read("a"), num(1), read("none")), "c": ("pick", read("a"), num(1), read("d")), "d": read("c")}
        house = ({"a": 1}, recipes)
        records = fresh_build(house, ["b", "d"])[1]
        self.assertEqual(reach_of(house, records, ["b", "d"], {"a": 2}), (["b", "c"], []))
        with self.assertRaises(NoName) as caught:
            reach_of(house, records, ["b"], {"a": 0})
        self.assertEqual(caught.exception.name, "none")
        with self.assertRaises(Ring) as caught:
            reach_of(house, records, ["d", "b"], {"a": 0})
        self.assertEqual(caught.exception.ring, ["d", "c", "d"])

    def test_against_builds_of_the_changed_house(self):
        chance = random.Random(15)
        kinds = {"NoName": 0, "Ring": 0, "none": 0, "made": 0, "other": 0}
        for _ in range(2000):
            house = any_house(chance)
            records = any_records(chance, house)
            wishes = any_wishes(chance)
            changes = {name: chance.randint(-3, 3) for name in house[0] if chance.random() < 0.5}
            before = copy.deepcopy((house, records, wishes, changes))
            told = answer(lambda: reach_of(house, records, wishes, changes))
            build = answer(lambda: build_again(({**house[0], **changes}, house[1]), records, wishes))
            self.assertEqual((house, records, wishes, changes), before)
            if refused(build):
                self.assertEqual(told, build)
                kinds[told[0]] += 1
                continue
            other = [name for name in build[2] if name in records and records[name][2] != build[0][name]]
            self.assertEqual(told, (build[2], other), before)
            kinds["other" if told[1] else "made" if told[0] else "none"] += 1
        self.assertTrue(min(kinds.values()) > 30, kinds)

    def test_what_is_told_is_the_askers_own(self):
        first = reach_of(HOUSE, RECORDS, ["d"], {"a": 2})
        self.assertEqual([type(first)] + [type(part) for part in first], [tuple, list, list])
        same = reach_of(HOUSE, RECORDS, ["d"], {"a": -1})
        self.assertEqual(same[0], same[1])
        self.assertTrue(all_different([first, same, reach_of(HOUSE, RECORDS, ["d"], {"a": 2})]))
        first[0].append("more")
        first[1].clear()
        self.assertEqual(reach_of(HOUSE, RECORDS, ["d"], {"a": 2}), (["b", "c", "d"], ["b", "d"]))


if __name__ == "__main__":
    unittest.main()
