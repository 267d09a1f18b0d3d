"""Promises 2, 16 and 17: what a recipe does behind reads, and which records are true."""

import copy
import random
import unittest

from madeagain.again import build_again
from madeagain.behind import behind, is_true_record
from madeagain.errors import MadeError, NoRead
from madeagain.fresh import fresh_build
from madeagain.recipes import is_recipe
from plain import NAMES, answer, any_house, any_records, any_recipe, any_wishes, num, read, refused

SUM = ("plus", read("a"), read("b"))
PICKED = ("pick", read("a"), ("times", read("b"), read("a")), read("c"))
CHOSEN = ("choose", read("a"), ("b", "c", "a"))


class Lacking(Exception):
    pass


class PlainBehind:
    """Point 16 written straight: the recipe is reckoned, and each name looked for first takes the next read."""

    def __init__(self, reads):
        self.reads = list(reads)
        self.known = {}

    def name(self, name):
        if name not in self.known:
            if not self.reads:
                raise Lacking(name)
            if self.reads[0][0] != name:
                raise NoRead()
            self.known[name] = self.reads.pop(0)[1]
        return self.known[name]

    def worth(self, r):
        if r[0] == "number":
            return r[1]
        if r[0] == "read":
            return self.name(r[1])
        first = self.worth(r[1])
        if r[0] == "pick":
            return self.worth(r[2] if first > 0 else r[3])
        if r[0] == "choose":
            return self.name(r[2][first % len(r[2])])
        second = self.worth(r[2])
        return {"plus": first + second, "minus": first - second, "times": first * second,
                "most": max(first, second)}[r[0]]

    def told(self, r):
        try:
            worth = self.worth(r)
        except Lacking as e:
            return ("read", e.args[0])
        if self.reads:
            raise NoRead()
        return ("worth", worth)


def answer_of(call):
    try:
        return call()
    except NoRead:
        return "NoRead"


def reads_by_chance(chance, r):
    """All that a recipe reads on to its end, with any numbers."""
    reads = []
    told = PlainBehind(reads).told(r)
    while told[0] == "read":
        reads.append((told[1], chance.randint(-3, 3)))
        told = PlainBehind(reads).told(r)
    return reads


def changed_reads(chance, reads):
    reads = list(reads)
    for _ in range(chance.randint(1, 2)):
        place = chance.randint(0, len(reads))
        deed = chance.choice(["more", "twice", "less", "number", "swap"])
        if deed == "more":
            reads.insert(place, (chance.choice(NAMES), chance.randint(-3, 3)))
        if deed == "twice" and reads:
            reads.insert(place, chance.choice(reads))
        if deed == "less":
            reads = reads[:place] + reads[place + 1:]
        if deed == "number" and place < len(reads):
            reads[place] = (reads[place][0], chance.randint(-3, 3))
        if deed == "swap" and place + 1 < len(reads):
            reads[place], reads[place + 1] = reads[place + 1], reads[place]
    return reads


class Behind(unittest.TestCase):
    def refuse(self, r, reads):
        with self.assertRaises(NoRead) as caught:
            behind(r, reads)
        self.assertIsInstance(caught.exception, MadeError)

    def test_behind_no_reads(self):
        self.assertEqual(behind(num(7), []), ("worth", 7))
        self.assertEqual(behind(("minus", num(2), num(5)), []), ("worth", -3))
        self.assertEqual(behind(read("a"), []), ("read", "a"))
        self.assertEqual(behind(SUM, []), ("read", "a"))
        self.assertEqual(behind(("plus", num(1), read("b")), []), ("read", "b"))
        self.assertEqual(behind(("pick", num(0), read("a"), read("b")), []), ("read", "b"))
        self.assertEqual(behind(("choose", num(-1), ("a", "b", "c")), []), ("read", "c"))

    def test_behind_some(self):
        self.assertEqual(behind(SUM, [("a", 4)]), ("read", "b"))
        self.assertEqual(behind(PICKED, [("a", 1)]), ("read", "b"))
        self.assertEqual(behind(PICKED, [("a", 0)]), ("read", "c"))
        self.assertEqual(behind(PICKED, [("a", -1)]), ("read", "c"))
        self.assertEqual(behind(CHOSEN, [("a", 3)]), ("read", "b"))
        self.assertEqual(behind(CHOSEN, [("a", -2)]), ("read", "c"))
        self.assertEqual(behind(("times", read("a"), read("b")), [("a", 0)]), ("read", "b"))

    def test_behind_all(self):
        self.assertEqual(behind(read("a"), [("a", -4)]), ("worth", -4))
        self.assertEqual(behind(SUM, [("a", 4), ("b", 5)]), ("worth", 9))
        self.assertEqual(behind(PICKED, [("a", 2), ("b", 5)]), ("worth", 10))
        self.assertEqual(behind(PICKED, [("a", 0), ("c", 5)]), ("worth", 5))
        self.assertEqual(behind(CHOSEN, [("a", 2)]), ("worth", 2))
        self.assertEqual(behind(("plus", read("a"), read("a")), [("a", 3)]), ("worth", 6))

    def test_its_kinds(self):
        for told in (behind(SUM, []), behind(SUM, [("a", 1), ("b", 0)])):
            self.assertIs(type(told), tuple)
        self.assertIs(type(behind(SUM, [("a", 1), ("b", 0)])[1]), int)

    def test_long_numbers(self):
        self.assertEqual(behind(SUM, [("a", 10 ** 99), ("b", -1)]), ("worth", 10 ** 99 - 1))

    def test_another_order(self):
        self.refuse(SUM, [("b", 5), ("a", 4)])
        self.refuse(PICKED, [("b", 5), ("a", 4)])
        self.refuse(SUM, [("b", 5)])

    def test_a_read_too_many(self):
        self.refuse(num(7), [("a", 1)])
        self.refuse(read("a"), [("a", 1), ("b", 1)])
        self.refuse(SUM, [("a", 4), ("b", 5), ("c", 1)])
        self.refuse(PICKED, [("a", 0), ("c", 5), ("b", 1)])

    def test_one_told_twice(self):
        self.refuse(read("a"), [("a", 1), ("a", 1)])
        self.refuse(SUM, [("a", 4), ("a", 4)])
        self.refuse(SUM, [("a", 4), ("a", 4), ("b", 5)])
        self.refuse(SUM, [("a", 4), ("b", 5), ("a", 4)])
        self.refuse(("plus", read("a"), read("a")), [("a", 3), ("a", 3)])

    def test_one_that_it_does_not_look_for(self):
        self.refuse(SUM, [("c", 1)])
        self.refuse(SUM, [("a", 4), ("c", 5)])
        self.refuse(PICKED, [("a", 1), ("c", 5)])
        self.refuse(PICKED, [("a", 0), ("b", 5)])
        self.refuse(CHOSEN, [("a", 1), ("b", 5)])

    def test_against_the_plain_words(self):
        chance = random.Random(16)
        seen = {"NoRead": 0, "read": 0, "worth": 0}
        for _ in range(4000):
            r = any_recipe(chance, NAMES, chance.randint(1, 5))
            reads = reads_by_chance(chance, r)
            for place in range(len(reads)):
                self.assertEqual(behind(r, reads[:place]), ("read", reads[place][0]))
            self.assertEqual(behind(r, reads)[0], "worth")
            other = changed_reads(chance, reads)
            before = copy.deepcopy((r, other))
            told = answer_of(lambda: behind(r, other))
            self.assertEqual(told, answer_of(lambda: PlainBehind(other).told(r)), before)
            self.assertEqual((r, other), before)
            self.assertEqual(answer_of(lambda: behind(r, other)), told)
            seen[told if told == "NoRead" else told[0]] += 1
        self.assertTrue(min(seen.values()) > 200, seen)


class TrueRecords(unittest.TestCase):
    def true(self, thing):
        self.assertIs(is_true_record(thing), True, thing)

    def false(self, thing):
        self.assertIs(is_true_record(thing), False, thing)

    def test_true_ones(self):
        self.true((num(5), [], 5))
        self.true((SUM, [("a", 1), ("b", -2)], -1))
        self.true((PICKED, [("a", 0), ("c", 9)], 9))
        self.true((num(10 ** 99), [], 10 ** 99))
        self.true((read("a"), [("a", -10 ** 99)], -10 ** 99))

    def test_records_of_builds(self):
        chance = random.Random(17)
        seen = 0
        for _ in range(300):
            house = any_house(chance)
            records = any_records(chance, house)
            for told in (answer(lambda: fresh_build(house, any_wishes(chance) + NAMES[-1:])),
                         answer(lambda: build_again(house, records, any_wishes(chance) + NAMES[-1:]))):
                if not refused(told):
                    for record in told[1].values():
                        self.true(record)
                        self.false((record[0], record[1], record[2] + 1))
                        self.false((record[0], record[1] + [("more", 1)], record[2]))
                        self.false((record[0], tuple(record[1]), record[2]))
                        self.false((record[0], record[1][1:], record[2]) if record[1] else None)
                        seen += 1
        self.assertGreater(seen, 500)

    def test_the_worth_changed(self):
        for worth in (0, 8, -9, 10, 10 ** 99):
            self.false((SUM, [("a", 4), ("b", 5)], worth))

    def test_a_read_changed(self):
        for reads in ([("a", 4), ("b", 6)], [("a", 3), ("b", 5)], [("a", 4)], [], [("a", 4), ("c", 5)],
                      [("c", 4), ("b", 5)], [("a", 4), ("b", 5), ("c", 0)], [("a", 4), ("a", 4), ("b", 5)]):
            self.false((SUM, reads, 9))
        self.true((PICKED, [("a", 1), ("b", 5)], 5))
        self.false((PICKED, [("a", 0), ("b", 5)], 5))

    def test_the_order_changed(self):
        self.true((SUM, [("a", 4), ("b", 5)], 9))
        self.false((SUM, [("b", 5), ("a", 4)], 9))

    def test_the_recipe_changed(self):
        for r in (("minus",) + SUM[1:], ("plus", read("b"), read("a")), read("a"), num(9), SUM + (num(0),), SUM[:2],
                  None, "a", list(SUM), ("plus", read("a"), ["read", "b"]), ("sum",) + SUM[1:],
                  ("plus", read("a"), read("B"))):
            self.false((r, [("a", 4), ("b", 5)], 9))

    def test_a_recipe_that_is_too_deep_or_too_large(self):
        r = num(1)
        for _ in range(7):
            r = ("most", r, num(1))
        self.true((r, [], 1))
        self.false((("most", r, num(1)), [], 1))
        row = [read("a")] * 50
        while len(row) > 1:
            row = [("most",) + tuple(row[k:k + 2]) for k in range(0, len(row) - 1, 2)] + row[len(row) // 2 * 2:]
        self.assertTrue(is_recipe(row[0]))
        self.true((row[0], [("a", 3)], 3))
        self.false((("most", row[0], num(0)), [("a", 3)], 3))

    def test_other_kinds_and_counts(self):
        record = (SUM, [("a", 4), ("b", 5)], 9)
        for thing in (None, True, 1, 1.5, "", "(a + b) [a=4,b=5] = 9", b"", [], (), {}, set(), object(), SUM,
                      read("a"), list(record), record[:2], record[:1], record[1:], record + (9,), record + record,
                      (record,), [record], dict(enumerate(record)), (9, [("a", 4), ("b", 5)], SUM),
                      (SUM, 9, [("a", 4), ("b", 5)]), ("a", "b", "c")):
            self.false(thing)

    def test_other_reads(self):
        for reads in ((("a", 4), ("b", 5)), {"a": 4, "b": 5}, [["a", 4], ["b", 5]], [("a", 4), ["b", 5]], "ab", None,
                      9, ["a", "b"], [("a", 4), ("b", 5, 0)], [("a", 4), ("b",)], [("a", 4), ()], [("a", 4), None],
                      [(("a",), 4), ("b", 5)], [("a", 4), (["b"], 5)], [("a", 4), ("b", "5")], [("a", 4), ("b", 5.0)],
                      [("a", 4), ("b", None)], [("a", 4), {"b": 5}], [("a", 4), "b5"], [(4, "a"), (5, "b")],
                      {("a", 4): True, ("b", 5): True}):
            self.false((SUM, reads, 9))

    def test_a_list_that_holds_itself(self):
        reads = []
        reads.append(reads)
        self.false((num(1), reads, 1))
        reads[0] = ("a", reads)
        self.false((read("a"), reads, 1))

    def test_names_that_are_none(self):
        for name in ("", "A", "a1", "abcdefghi", "a ", "a\n", "\u00e4"):
            self.false((read(name), [(name, 1)], 1))
            self.false((num(1), [(name, 1)], 1))

    def test_no_truths_for_whole_numbers(self):
        self.true((num(1), [], 1))
        self.false((num(True), [], 1))
        self.false((num(1), [], True))
        self.false((num(1), [], 1.0))
        self.false((num(0), [], False))
        self.true((read("a"), [("a", 1)], 1))
        self.false((read("a"), [("a", True)], 1))
        self.false((read("a"), [("a", True)], True))
        self.false((num(1), [], "1"))
        self.false((num(1), [], None))

    def test_alike_so_far_is_the_same_name_next_or_the_same_end(self):
        chance = random.Random(171)
        for _ in range(300):
            r = any_recipe(chance, NAMES[:4], 5)
            records = [reads_by_chance(chance, r) for _ in range(8)]
            told = {}
            for reads in records:
                self.true((r, reads, behind(r, reads)[1]))
                for place in range(len(reads) + 1):
                    there = reads[place][0] if place < len(reads) else behind(r, reads)
                    self.assertEqual(told.setdefault(tuple(reads[:place]), there), there)

    def test_nothing_handed_in_is_changed(self):
        for thing in ((SUM, [("a", 4), ("b", 5)], 9), (SUM, [("a", 4), ("c", 5)], 9), (SUM, [["a"]], 9)):
            before = copy.deepcopy(thing)
            self.assertEqual(is_true_record(thing), is_true_record(thing))
            self.assertEqual(thing, before)


if __name__ == "__main__":
    unittest.main()
