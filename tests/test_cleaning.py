"""Promises 2, 27 and 28: the records of a store that are needed for given cases."""

import copy
import random
import unittest

from madeagain.behind import is_true_record
from madeagain.cleaning import needed
from madeagain.errors import MadeError, NoRecord
from madeagain.fresh import fresh_build
from madeagain.stores import Store
from plain import (NAMES, PlainStored, all_different, answer, any_house, any_records, any_wishes, num, other_house,
                   read, refused)

SUM = ("plus", read("a"), read("b"))
RECIPES = {"s": SUM, "t": ("times", read("s"), num(2)), "p": ("pick", read("s"), read("a"), read("t")), "n": num(4)}
HOUSE = ({"a": 1, "b": 2}, RECIPES)
S3 = (SUM, [("a", 1), ("b", 2)], 3)
S9 = (SUM, [("a", 4), ("b", 5)], 9)
T6 = (RECIPES["t"], [("s", 3)], 6)
T8 = (RECIPES["t"], [("s", 4)], 8)
P1 = (RECIPES["p"], [("s", 3), ("a", 1)], 1)
N4 = (RECIPES["n"], [], 4)
FIVE = (num(5), [], 5)
ALL = [FIVE, P1, S9, T8, N4, T6, S3]
NOT_TRUE = [None, True, 7, "5 [] = 5", [], (), {}, [num(5), [], 5], (num(5), [], 6), (num(5), (), 5), (num(5), []),
            (num(1), [], True), (SUM, [("a", 1)], 1), (SUM, [("b", 2), ("a", 1)], 3)]


def store_of(records):
    store = Store()
    store.take(records)
    return store


def plain_needed(records, cases):
    """Point 27 straight, over the slow build."""
    records = [record for place, record in enumerate(records) if record not in records[:place]]
    keeping = []
    for house, wishes in cases:
        build = PlainStored(house, list(records))
        if refused(answer(lambda: build.build(wishes))) or build.made:
            raise NoRecord()
        keeping += [(house[1][name], build.reads[name], build.known[name]) for name in build.kept]
    return [record for record in records if record in keeping]


class Needed(unittest.TestCase):
    def check(self, records, cases, told):
        self.assertEqual(needed(records, cases), told)
        for house, wishes in cases:
            self.assertEqual(store_of(told).build(house, wishes)[1], [])
        for place in range(len(told)):
            rest = told[:place] + told[place + 1:]
            self.assertTrue(any(store_of(rest).build(house, wishes)[1] for house, wishes in cases))

    def test_one_case(self):
        self.check(ALL, [(HOUSE, ["s"])], [S3])
        self.check(ALL, [(HOUSE, ["t"])], [T6, S3])
        self.check(ALL, [(HOUSE, ["p"])], [P1, S3])
        self.check(ALL, [(HOUSE, ["n"])], [N4])
        self.check(ALL, [(HOUSE, ["p", "t", "n", "p"])], [P1, N4, T6, S3])

    def test_several_cases(self):
        other = ({"a": 4, "b": 5}, RECIPES)
        self.check(ALL, [(HOUSE, ["s"]), (other, ["s"])], [S9, S3])
        self.check(ALL, [(other, ["s"]), (HOUSE, ["n"]), (HOUSE, ["t"])], [S9, N4, T6, S3])
        self.check(ALL, [(HOUSE, ["s"]), (HOUSE, ["s"]), (HOUSE, ["n", "s"])], [N4, S3])
        self.check(ALL, [(({"s": 4}, {"t": RECIPES["t"]}), ["t"]), (({}, {"x": num(5)}), ["x"])], [FIVE, T8])

    def test_the_stores_order(self):
        for records in (ALL, ALL[::-1], ALL[3:] + ALL[:3]):
            told = needed(records, [(HOUSE, ["n", "p", "t"])])
            self.assertEqual(told, [record for record in records if record in (P1, N4, T6, S3)])

    def test_records_that_stand_twice(self):
        self.check([T6, S3, T6, S3, FIVE, T6], [(HOUSE, ["t"])], [T6, S3])

    def test_records_under_other_names(self):
        self.check(ALL, [(({"a": 1, "b": 2}, {"x": SUM, "y": SUM}), ["y", "x"])], [S3])

    def test_no_cases_no_wishes_and_given_ones(self):
        self.check(ALL, [], [])
        self.check([], [], [])
        self.check(ALL, [(HOUSE, [])], [])
        self.check(ALL, [(HOUSE, ["a", "b"])], [])
        self.check([], [(HOUSE, ["a"]), (({}, {}), [])], [])

    def test_what_would_make_something(self):
        for records, cases in (([], [(HOUSE, ["n"])]), ([T6], [(HOUSE, ["t"])]), ([S3], [(HOUSE, ["t"])]),
                               (ALL, [(({"a": 7, "b": 2}, RECIPES), ["s"])]), ([S9], [(HOUSE, ["s"])]),
                               (ALL, [(HOUSE, ["s"]), (({"a": 7, "b": 2}, RECIPES), ["s"])]),
                               (ALL, [(({}, {"x": num(6)}), ["x"]), (HOUSE, ["s"])])):
            self.refuse(records, cases)

    def test_what_one_case_makes_does_not_serve_another(self):
        self.refuse([S3], [(HOUSE, ["t"]), (HOUSE, ["t"])])

    def test_refused_cases(self):
        rings = ({}, {"x": read("y"), "y": read("x"), "u": read("none")})
        for cases in ([(HOUSE, ["none"])], [(HOUSE, ["s", "none"])], [(rings, ["x"])], [(rings, ["u"])],
                      [(HOUSE, ["s"]), (rings, ["y"])], [(({"a": 1}, RECIPES), ["s"])]):
            self.refuse(ALL, cases)

    def test_records_that_are_none(self):
        for thing in NOT_TRUE:
            self.refuse([thing], [])
            self.refuse([thing] + ALL, [(HOUSE, ["s"])])
            self.refuse(ALL + [thing], [(HOUSE, ["s"])])
            self.refuse(ALL + [thing], [(HOUSE, ["none"])])

    def refuse(self, records, cases):
        with self.assertRaises(NoRecord) as caught:
            needed(records, cases)
        self.assertIsInstance(caught.exception, MadeError)

    def test_what_is_told_is_the_askers_own(self):
        records = copy.deepcopy(ALL)
        cases = [(HOUSE, ["t"]), (HOUSE, ["p", "n"])]
        before = copy.deepcopy(cases)
        first = needed(records, cases)
        second = needed(records, cases)
        self.assertTrue(all_different([first, second, records, HOUSE]))
        first[0][1].clear()
        first.clear()
        self.assertEqual(second, needed(records, cases))
        self.assertEqual((records, cases), (ALL, before))


class Whole(unittest.TestCase):
    def test_against_the_plain_words(self):
        chance = random.Random(27)
        seen = {"NoRecord": 0, "all": 0, "fewer": 0}
        for _ in range(1500):
            house = any_house(chance)
            cases = [(other_house(chance, house), any_wishes(chance) + [chance.choice(NAMES)])
                     for _ in range(chance.randint(1, 3))]
            records = list(any_records(chance, house).values())
            for case in cases:
                told = answer(lambda: fresh_build(*case))
                records += list(told[1].values()) if not refused(told) else []
            chance.shuffle(records)
            records = records[:chance.choice([99, 99, 99, len(records) - 1])]
            before = copy.deepcopy((records, cases))
            told = answer(lambda: needed(records, cases))
            self.assertEqual(told, answer(lambda: plain_needed(records, cases)), before)
            self.assertEqual((records, cases), before)
            if refused(told):
                seen[told[0]] += 1
                continue
            self.held(told, cases)
            seen["all" if len(told) == store_of(records).size() else "fewer"] += 1
        self.assertTrue(min(seen.values()) > 50, seen)

    def held(self, told, cases):
        self.assertTrue(all(is_true_record(record) for record in told))
        self.assertEqual(needed(told, cases), told)
        for case in cases:
            self.assertEqual(store_of(told).build(*case)[1], [])
        for place in range(len(told)):
            rest = told[:place] + told[place + 1:]
            self.assertTrue(any(store_of(rest).build(*case)[1] for case in cases))
            self.assertEqual(answer(lambda: needed(rest, cases)), ("NoRecord",))


if __name__ == "__main__":
    unittest.main()
