"""Promises 2 and 9: fresh builds."""

import copy
import random
import unittest

from madeagain.errors import MadeError, NoName, Ring
from madeagain.fresh import fresh_build
from madeagain.worths import reads_of, worth_of
from plain import NAMES, Plain, all_different, answer, any_house, any_wishes, num, read, refused

SUM = ("plus", read("a"), read("b"))
PICKED = ("pick", read("c"), ("times", read("c"), read("a")), read("b"))
HOUSE = ({"a": 2, "b": 5, "z": 9}, {"c": SUM, "d": PICKED, "n": num(4), "u": read("none")})


class Told(unittest.TestCase):
    def test_worths_records_and_order(self):
        worths, records, order = fresh_build(HOUSE, ["d"])
        self.assertEqual(worths, {"d": 14, "c": 7, "a": 2, "b": 5})
        self.assertEqual(records, {"c": (SUM, [("a", 2), ("b", 5)], 7), "d": (PICKED, [("c", 7), ("a", 2)], 14)})
        self.assertEqual(order, ["c", "d"])

    def test_their_kinds(self):
        told = fresh_build(HOUSE, ["d", "a"])
        self.assertIs(type(told), tuple)
        self.assertEqual([type(part) for part in told], [dict, dict, list])
        for record in told[1].values():
            self.assertIs(type(record), tuple)
            self.assertEqual([type(part) for part in record], [tuple, list, int])
            self.assertEqual({type(one) for one in record[1]}, {tuple})

    def test_only_what_is_gone_to(self):
        self.assertEqual(fresh_build(HOUSE, ["c"])[0], {"a": 2, "b": 5, "c": 7})
        self.assertEqual(fresh_build(HOUSE, ["n"]), ({"n": 4}, {"n": (num(4), [], 4)}, ["n"]))
        house = ({"a": 1, "o": 0, "x": 3}, {"p": ("pick", read("a"), read("o"), read("x")), "q": read("x"),
                                            "k": ("choose", read("o"), ("a", "q", "x"))})
        self.assertEqual(fresh_build(house, ["p", "k"])[0], {"a": 1, "o": 0, "p": 0, "k": 1})

    def test_the_order_is_that_of_coming_to_be_known(self):
        house = ({"g": 1}, {"a": ("plus", read("b"), read("c")), "b": read("d"), "c": read("d"), "d": read("g"),
                            "e": read("a"), "f": num(0)})
        self.assertEqual(fresh_build(house, ["a"])[2], ["d", "b", "c", "a"])
        self.assertEqual(fresh_build(house, ["f", "c", "e", "b"])[2], ["f", "d", "c", "b", "a", "e"])
        self.assertEqual(fresh_build(house, ["b", "a", "f"])[2], ["d", "b", "c", "a", "f"])

    def test_reads_of_a_name_that_was_known_already(self):
        house = ({"g": 3}, {"a": read("g"), "b": ("plus", read("a"), read("g"))})
        self.assertEqual(fresh_build(house, ["a", "b"])[1]["b"], (house[1]["b"], [("a", 3), ("g", 3)], 6))

    def test_wishes_that_stand_twice(self):
        self.assertEqual(fresh_build(HOUSE, ["d", "c", "d", "d", "c"]), fresh_build(HOUSE, ["d"]))
        self.assertEqual(fresh_build(HOUSE, ["z", "z"]), ({"z": 9}, {}, []))

    def test_no_wishes(self):
        self.assertEqual(fresh_build(HOUSE, []), ({}, {}, []))
        self.assertEqual(fresh_build(({}, {}), []), ({}, {}, []))

    def test_given_names_among_the_wishes(self):
        worths, records, order = fresh_build(HOUSE, ["z", "c", "a"])
        self.assertEqual(worths, {"z": 9, "a": 2, "b": 5, "c": 7})
        self.assertEqual(list(records), ["c"])
        self.assertEqual(order, ["c"])

    def test_long_numbers(self):
        house = ({"a": 10 ** 49}, {"b": ("times", read("a"), read("a")), "c": ("minus", num(0), read("b"))})
        self.assertEqual(fresh_build(house, ["c"])[0], {"a": 10 ** 49, "b": 10 ** 98, "c": -10 ** 98})

    def test_thirty_names(self):
        names = [first + second for first in "abc" for second in "abcdefghij"]
        house = ({names[0]: 1}, {name: ("plus", read(ahead), num(1)) for ahead, name in zip(names, names[1:])})
        told = fresh_build(house, names[::-1])
        self.assertEqual(told[2], names[1:])
        self.assertEqual(told[0], {name: place for place, name in enumerate(names, 1)})


class Refused(unittest.TestCase):
    def no_name(self, house, wishes, lacking):
        with self.assertRaises(NoName) as caught:
            fresh_build(house, wishes)
        self.assertEqual(caught.exception.name, lacking)
        self.assertIsInstance(caught.exception, MadeError)

    def ring(self, house, wishes, ring):
        with self.assertRaises(Ring) as caught:
            fresh_build(house, wishes)
        self.assertEqual(caught.exception.ring, ring)
        self.assertIsInstance(caught.exception, MadeError)

    def test_no_such_name(self):
        self.no_name(HOUSE, ["none"], "none")
        self.no_name(HOUSE, ["d", "more", "none"], "more")
        self.no_name(HOUSE, ["a", "u"], "none")
        self.no_name(({}, {}), ["a"], "a")

    def test_rings(self):
        house = ({}, {"a": read("b"), "b": ("plus", num(1), read("c")), "c": read("a"), "d": num(1), "s": read("s")})
        self.ring(house, ["a"], ["a", "b", "c", "a"])
        self.ring(house, ["d", "c"], ["c", "a", "b", "c"])
        self.ring(house, ["s"], ["s", "s"])

    def test_a_ring_begins_where_it_closes(self):
        house = ({}, {"a": read("b"), "b": read("c"), "c": read("b")})
        self.ring(house, ["a"], ["b", "c", "b"])

    def test_the_first_refusal_counts(self):
        house = ({}, {"a": read("a"), "b": read("none")})
        self.ring(house, ["a", "b"], ["a", "a"])
        self.no_name(house, ["b", "a"], "none")

    def test_what_is_not_gone_to_is_not_refused(self):
        house = ({"a": 1}, {"b": ("pick", read("a"), num(3), read("b")), "c": read("c")})
        self.assertEqual(fresh_build(house, ["b"])[0], {"a": 1, "b": 3})


class Whole(unittest.TestCase):
    def test_against_the_plain_words(self):
        chance = random.Random(9)
        kinds = {"NoName": 0, "Ring": 0, "told": 0}
        for _ in range(2000):
            house = any_house(chance)
            wishes = any_wishes(chance) + [chance.choice(NAMES + ["none"])]
            before = copy.deepcopy((house, wishes))
            told = answer(lambda: fresh_build(house, wishes))
            self.assertEqual(told, answer(lambda: Plain(house).build(wishes)), (house, wishes))
            self.assertEqual((house, wishes), before)
            kinds[told[0] if refused(told) else "told"] += 1
            if not refused(told):
                for name, worth in told[0].items():
                    self.assertEqual(worth, worth_of(house, name))
                for name, record in told[1].items():
                    self.assertEqual(record[1], reads_of(house, name))
        self.assertTrue(min(kinds.values()) > 50, kinds)

    def test_what_is_told_is_the_askers_own(self):
        wishes = ["d", "c", "n", "a"]
        first = fresh_build(HOUSE, wishes)
        second = fresh_build(HOUSE, wishes)
        self.assertTrue(all_different([first, second, HOUSE, wishes]))
        before = copy.deepcopy(second)
        first[0].clear()
        first[1]["d"][1].append("more")
        first[1].clear()
        first[2].append("more")
        self.assertEqual(second, before)
        self.assertEqual(fresh_build(HOUSE, wishes), before)

    def test_nothing_is_kept_from_one_to_the_next(self):
        house = ({"g": 1}, {"a": read("g")})
        self.assertEqual(fresh_build(house, ["a"])[0], {"g": 1, "a": 1})
        house[0]["g"] = 2
        self.assertEqual(fresh_build(house, ["a"])[0], {"g": 2, "a": 2})
        house[1]["a"] = num(7)
        self.assertEqual(fresh_build(house, ["a"])[0], {"a": 7})

    def test_a_told_build_is_not_changed_with_the_house(self):
        house = ({"g": 1}, {"a": read("g")})
        told = fresh_build(house, ["a"])
        house[0]["g"] = 2
        house[1].clear()
        self.assertEqual(told, ({"g": 1, "a": 1}, {"a": (read("g"), [("g", 1)], 1)}, ["a"]))


if __name__ == "__main__":
    unittest.main()
