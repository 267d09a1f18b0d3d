"""Promises 2, 7 and 8: worths of names and the reads on the way."""

import copy
import inspect
import random
import sys
import unittest

from madeagain.errors import MadeError, NoName, Ring
from madeagain.worths import reads_of, worth_of
from plain import Plain, answer, any_house, num, read

THIRTY = ["n" + first + second for first in "abc" for second in "abcdefghij"]


def deep_read(name):
    r = read(name)
    for kind in ("plus", "minus", "most", "times", "plus", "minus", "plus"):
        r = (kind, r, num(1))
    return r


class Worths(unittest.TestCase):
    def worth(self, r, given=None):
        given = {"x": 5, "y": -3, "o": 0} if given is None else given
        told = worth_of((given, {"asked": r}), "asked")
        self.assertIs(type(told), int)
        return told

    def test_given(self):
        self.assertEqual(worth_of(({"a": -7}, {}), "a"), -7)

    def test_number_and_read(self):
        self.assertEqual(self.worth(num(0)), 0)
        self.assertEqual(self.worth(num(-12)), -12)
        self.assertEqual(self.worth(num(10 ** 99)), 10 ** 99)
        self.assertEqual(self.worth(read("y")), -3)

    def test_of_two(self):
        self.assertEqual(self.worth(("plus", read("x"), read("y"))), 2)
        self.assertEqual(self.worth(("minus", read("x"), read("y"))), 8)
        self.assertEqual(self.worth(("minus", read("y"), read("x"))), -8)
        self.assertEqual(self.worth(("times", read("x"), read("y"))), -15)
        self.assertEqual(self.worth(("most", read("x"), read("y"))), 5)
        self.assertEqual(self.worth(("most", read("y"), read("x"))), 5)
        self.assertEqual(self.worth(("most", read("y"), num(-4))), -3)
        self.assertEqual(self.worth(("most", num(2), num(2))), 2)

    def test_pick(self):
        for n, told in ((1, 10), (7, 10), (0, 20), (-1, 20), (-7, 20)):
            self.assertEqual(self.worth(("pick", num(n), num(10), num(20))), told, n)

    def test_choose(self):
        given = {"a": 10, "b": 20, "c": 30}
        for n, told in ((0, 10), (1, 20), (2, 30), (3, 10), (-1, 30), (-2, 20), (-3, 10), (-4, 30), (300001, 20)):
            self.assertEqual(self.worth(("choose", num(n), ("a", "b", "c")), given), told, n)
        self.assertEqual(self.worth(("choose", num(-5), ("c",)), given), 30)

    def test_within_one_another(self):
        r = ("times", ("plus", read("x"), ("minus", num(1), read("y"))), ("pick", read("o"), num(9), ("most", read("y"), num(-1))))
        self.assertEqual(self.worth(r), -9)

    def test_by_other_recipes(self):
        house = ({"a": 2}, {"b": ("times", read("a"), num(3)), "c": ("plus", read("b"), read("a")),
                            "d": ("choose", read("a"), ("a", "b", "c"))})
        self.assertEqual([worth_of(house, name) for name in "abcd"], [2, 6, 8, 8])

    def test_what_is_not_taken_is_not_looked_for(self):
        house = ({"a": 1, "o": 0}, {"s": ("pick", read("a"), num(4), read("none")),
                                    "t": ("pick", read("o"), read("none"), num(5)),
                                    "u": ("pick", read("a"), num(6), read("u")),
                                    "v": ("choose", read("o"), ("a", "none", "v"))})
        self.assertEqual([worth_of(house, name) for name in "stuv"], [4, 5, 6, 1])

    def test_a_known_worth_is_not_reckoned_again(self):
        recipes = {name: ("plus", read(ahead), read(ahead)) for ahead, name in zip(THIRTY, THIRTY[1:])}
        house = ({THIRTY[0]: 1}, recipes)
        self.assertEqual(worth_of(house, THIRTY[-1]), 2 ** 29)
        self.assertEqual(reads_of(house, THIRTY[-1]), [(THIRTY[-2], 2 ** 28)])

    def test_thirty_names_at_a_depth_of_eight(self):
        recipes = {name: deep_read(behind) for name, behind in zip(THIRTY, THIRTY[1:])}
        house = ({THIRTY[-1]: 100}, recipes)
        told = Plain(house).name(THIRTY[0])
        old = sys.getrecursionlimit()
        sys.setrecursionlimit(len(inspect.stack(0)) + 60)
        try:
            self.assertEqual(worth_of(house, THIRTY[0]), told)
            self.assertEqual(len(reads_of(house, THIRTY[0])), 1)
        finally:
            sys.setrecursionlimit(old)


class Refused(unittest.TestCase):
    def no_name(self, house, asked, lacking):
        for call in (worth_of, reads_of):
            with self.assertRaises(NoName) as caught:
                call(house, asked)
            self.assertEqual(caught.exception.name, lacking)
            self.assertIsInstance(caught.exception, MadeError)

    def ring(self, house, asked, ring):
        for call in (worth_of, reads_of):
            with self.assertRaises(Ring) as caught:
                call(house, asked)
            self.assertEqual(caught.exception.ring, ring)
            self.assertIsInstance(caught.exception, MadeError)

    def test_the_name_asked_for(self):
        self.no_name(({}, {}), "a", "a")
        self.no_name(({"b": 1}, {"c": read("b")}), "a", "a")

    def test_a_name_on_the_way(self):
        self.no_name(({}, {"a": ("plus", num(1), read("b")), "b": read("c")}), "a", "c")

    def test_the_first_of_several(self):
        self.no_name(({}, {"a": ("plus", read("z"), read("b"))}), "a", "z")
        self.no_name(({}, {"a": ("minus", read("s"), read("b")), "s": ("times", num(0), read("q"))}), "a", "q")
        self.no_name(({}, {"a": ("pick", read("t"), read("b"), read("c"))}), "a", "t")
        self.no_name(({}, {"a": ("choose", num(-1), ("b", "c"))}), "a", "c")
        self.no_name(({}, {"a": ("choose", read("r"), ("b", "c"))}), "a", "r")
        self.no_name(({}, {"a": ("most", read("z"), read("a"))}), "a", "z")

    def test_a_name_of_itself(self):
        self.ring(({}, {"a": read("a")}), "a", ["a", "a"])
        self.ring(({}, {"a": ("times", num(0), read("a"))}), "a", ["a", "a"])
        self.ring(({}, {"a": ("choose", num(0), ("a",))}), "a", ["a", "a"])

    def test_of_several_names(self):
        house = ({}, {"a": read("b"), "b": ("plus", num(1), read("c")), "c": read("a")})
        self.ring(house, "a", ["a", "b", "c", "a"])
        self.ring(house, "b", ["b", "c", "a", "b"])
        self.ring(house, "c", ["c", "a", "b", "c"])

    def test_one_that_the_name_asked_for_is_not_part_of(self):
        house = ({"g": 1}, {"a": ("plus", read("g"), read("b")), "b": read("c"), "c": ("plus", read("k"), read("d")),
                            "d": read("c"), "k": read("g")})
        self.ring(house, "a", ["c", "d", "c"])

    def test_the_first_refusal_of_several(self):
        self.ring(({}, {"a": ("plus", read("a"), read("none"))}), "a", ["a", "a"])
        self.ring(({}, {"a": ("plus", read("b"), read("none")), "b": read("a")}), "a", ["a", "b", "a"])

    def test_a_ring_of_thirty(self):
        house = ({}, {name: deep_read(behind) for name, behind in zip(THIRTY, THIRTY[1:] + THIRTY[:1])})
        self.ring(house, THIRTY[0], THIRTY + THIRTY[:1])

    def test_a_told_ring_is_the_askers_own(self):
        house = ({}, {"a": read("b"), "b": read("a")})
        for _ in range(2):
            with self.assertRaises(Ring) as caught:
                worth_of(house, "a")
            self.assertEqual(caught.exception.ring, ["a", "b", "a"])
            caught.exception.ring.clear()


class Reads(unittest.TestCase):
    def test_of_a_given_name(self):
        self.assertEqual(reads_of(({"a": 1}, {}), "a"), [])

    def test_of_none(self):
        self.assertEqual(reads_of(({}, {"a": num(3)}), "a"), [])

    def test_their_order_each_once(self):
        house = ({"z": 1, "b": 2, "m": 3},
                 {"a": ("plus", ("minus", read("z"), read("m")), ("times", read("b"), ("plus", read("z"), read("m"))))})
        self.assertEqual(reads_of(house, "a"), [("z", 1), ("m", 3), ("b", 2)])

    def test_not_what_these_look_for(self):
        house = ({"g": 2}, {"a": ("plus", read("b"), read("c")), "b": ("times", read("g"), num(5)), "c": read("b")})
        self.assertEqual(reads_of(house, "a"), [("b", 10), ("c", 10)])
        self.assertEqual(reads_of(house, "c"), [("b", 10)])

    def test_one_known_by_another_is_a_read_where_its_own_recipe_looks_for_it(self):
        house = ({"g": 2}, {"a": ("plus", read("b"), read("g")), "b": read("g")})
        self.assertEqual(reads_of(house, "a"), [("b", 2), ("g", 2)])

    def test_of_a_pick(self):
        house = ({"x": 1, "o": 0, "s": 7, "t": 8}, {"a": ("pick", read("x"), read("s"), read("t")),
                                                    "b": ("pick", read("o"), read("s"), read("t"))})
        self.assertEqual(reads_of(house, "a"), [("x", 1), ("s", 7)])
        self.assertEqual(reads_of(house, "b"), [("o", 0), ("t", 8)])

    def test_of_a_choose(self):
        house = ({"x": -1, "s": 7, "t": 8}, {"a": ("choose", read("x"), ("s", "t", "none", "t")),
                                             "b": ("choose", read("x"), ("s", "x"))})
        self.assertEqual(reads_of(house, "a"), [("x", -1), ("t", 8)])
        self.assertEqual(reads_of(house, "b"), [("x", -1)])

    def test_they_are_tuples_in_a_list(self):
        told = reads_of(({"g": 1}, {"a": read("g")}), "a")
        self.assertIs(type(told), list)
        self.assertIs(type(told[0]), tuple)
        self.assertIs(type(told[0][1]), int)


class Whole(unittest.TestCase):
    def test_against_the_plain_words(self):
        chance = random.Random(3)
        kinds = {"NoName": 0, "Ring": 0, "told": 0}
        for _ in range(1500):
            house = any_house(chance)
            before = copy.deepcopy(house)
            for name in list("abcdefgh") + ["none"]:
                told = answer(lambda: worth_of(house, name))
                self.assertEqual(told, answer(lambda: Plain(house).name(name)), (house, name))
                plain = Plain(house)
                reads = answer(lambda: (plain.name(name), plain.reads.get(name, []))[1])
                self.assertEqual(answer(lambda: reads_of(house, name)), reads, (house, name))
                kinds[told[0] if isinstance(told, tuple) else "told"] += 1
            self.assertEqual(house, before)
        self.assertTrue(min(kinds.values()) > 50, kinds)

    def test_told_lists_are_the_askers_own(self):
        house = ({"g": 1}, {"a": read("g")})
        for name, told in (("a", [("g", 1)]), ("g", [])):
            first = reads_of(house, name)
            first.append("more")
            self.assertEqual(reads_of(house, name), told)
            self.assertIsNot(reads_of(house, name), reads_of(house, name))
        self.assertEqual(house, ({"g": 1}, {"a": read("g")}))

    def test_what_was_asked_before_is_not_kept(self):
        house = ({"g": 1}, {"a": read("g")})
        self.assertEqual(worth_of(house, "a"), 1)
        house[0]["g"] = 2
        self.assertEqual(worth_of(house, "a"), 2)


if __name__ == "__main__":
    unittest.main()
