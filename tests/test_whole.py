"""Promises 1 to 3 over the whole program: all builds come to the same, and all that is told is the asker's own."""

import copy
import os
import random
import subprocess
import sys
import unittest

from madeagain.again import build_again
from madeagain.behind import behind, is_true_record
from madeagain.cleaning import needed
from madeagain.desk import Desk
from madeagain.fresh import fresh_build
from madeagain.histories import replayed
from madeagain.papers import chain_of, paper_shows, papers_of
from madeagain.recordtexts import read_record, show_record
from madeagain.stores import Store
from madeagain.texts import read_recipe, show_recipe
from madeagain.traces import trace_shows
from madeagain.twins import reach_of, twin_of
from madeagain.weavings import woven
from madeagain.worths import reads_of, worth_of
from plain import (NAMES, all_different, answer, any_house, any_records, any_wishes, lists_in, num, other_house, read,
                   refused)

TOP = os.path.dirname(os.path.dirname(os.path.abspath(__file__)))


def deeds_of(house):
    return [("give",) + pair for pair in house[0].items()] + [("cook",) + pair for pair in house[1].items()]


def any_case(chance):
    house = any_house(chance)
    return (other_house(chance, house), any_records(chance, house), any_wishes(chance) + [chance.choice(NAMES)],
            [chance.randint(-9, 9) for _ in range(chance.choice([0, 3, 30]))])


def all_answers(house, records, wishes, choices):
    """One answer of nearly everything there is."""
    store = Store()
    history = replayed(deeds_of(house))
    calls = [
        lambda: fresh_build(house, wishes), lambda: build_again(house, records, wishes),
        lambda: papers_of(house, records, wishes), lambda: reach_of(house, records, wishes, {"a": 3}),
        lambda: store.take(list(records.values())), store.records, lambda: store.build(house, wishes), store.records,
        lambda: woven(house, wishes, choices), lambda: history.wish(wishes), history.made, history.kept,
        history.deeds, history.house, history.store_records, lambda: history.clean(wishes), history.store_records,
        lambda: needed(store.records(), [(house, wishes)]), lambda: worth_of(house, wishes[0]),
        lambda: reads_of(house, wishes[0]),
        lambda: [read_record(show_record(record)) for record in records.values()],
    ]
    return [answer(call) for call in calls]


class Same(unittest.TestCase):
    def test_all_builds_come_to_the_fresh_builds_worths(self):
        chance = random.Random(3)
        seen = {"told": 0, "refused": 0}
        for _ in range(1500):
            house, records, wishes, choices = any_case(chance)
            fresh = answer(lambda: fresh_build(house, wishes))
            again = answer(lambda: build_again(house, records, wishes))
            store = Store()
            self.assertEqual(store.take(list(records.values())), [])
            stored = answer(lambda: store.build(house, wishes))
            trace = answer(lambda: woven(house, wishes, choices))
            wished = answer(lambda: replayed(deeds_of(house)).wish(wishes))
            if refused(fresh):
                self.assertEqual((again, stored, wished), (fresh, fresh, fresh))
                self.assertTrue(refused(trace))
                seen["refused"] += 1
                continue
            seen["told"] += 1
            self.assertEqual(again[:2], fresh[:2])
            self.assertEqual(stored[0], fresh[0])
            self.assertEqual({step[0]: step[2] for step in trace if step[1] == "known"},
                             {name: fresh[0][name] for name in fresh[2]})
            self.assertEqual(wished, [fresh[0][name] for name in wishes])
            self.assertIs(trace_shows(house, wishes, trace), True)
            self.reasons(house, records, wishes, again)
            self.kept_of_the_store(house, wishes, store)
        self.assertTrue(min(seen.values()) > 100, seen)

    def reasons(self, house, records, wishes, again):
        worths, now, made, kept = again
        papers = papers_of(house, records, wishes)
        self.assertEqual(sorted(papers), sorted(worths))
        for name, paper in papers.items():
            self.assertIs(paper_shows(house, records, worths, name, paper), True)
        for name in made:
            self.assertEqual(chain_of(papers, records, name)[0], (name, papers[name]))
            if papers[name][0] == "read":
                self.twin_says_so(records[name], papers[name])
        for name in now:
            self.assertTrue(is_true_record(now[name]))
            self.assertEqual(read_record(show_record(now[name])), now[name])

    def twin_says_so(self, record, paper):
        k, number, other = paper[1:]
        twin = twin_of(record, k)
        self.assertIs(is_true_record((twin, record[1], record[2])), True)
        reads = record[1][:k] + [(record[1][k][0], other)] + record[1][k + 1:]
        there = dict(reads)
        self.assertNotEqual(worth_of((there, {"twin": twin}), "twin"), record[2])
        self.assertEqual(record[1][k][1], number)
        self.assertEqual(behind(twin, record[1][:k])[0], "read")

    def kept_of_the_store(self, house, wishes, store):
        self.assertEqual(store.build(house, wishes)[1], [])
        told = needed(store.records(), [(house, wishes)])
        fewer = Store()
        fewer.take(told)
        self.assertEqual(fewer.build(house, wishes)[1], [])

    def test_what_the_document_tells_at_first(self):
        desk = Desk()
        for row, told in (("give a 1", "ok"), ("give b -2", "ok"), ("cook s (a + b)", "ok"), ("cook p [a ? s : q]", "ok"),
                          ("wish p", "-1"), ("made", "s p"), ("why p", "[a ? s : q] [a=1,s=-1] = -1"),
                          ("give b -3", "ok"), ("wish p s", "-2 -2"), ("made", "s p")):
            self.assertEqual(desk.say(row), told)
        desk.say("undo")
        self.assertEqual((desk.say("wish p"), desk.say("made"), desk.say("kept")), ("-1", "none", "s p"))


class Own(unittest.TestCase):
    def test_nothing_is_changed_and_the_same_again_is_answered_the_same(self):
        chance = random.Random(2)
        for _ in range(300):
            case = any_case(chance)
            before = copy.deepcopy(case)
            first = all_answers(*case)
            self.assertEqual(case, before)
            second = all_answers(*case)
            self.assertEqual(second, first)
            self.assertTrue(all_different([first, second, case]))
            ought = copy.deepcopy(second)
            for part in lists_in(first):
                part.clear()
            self.assertEqual(case, before)
            self.assertEqual(second, ought)
            self.assertEqual(all_answers(*case), ought)

    def test_nothing_hangs_on_chance(self):
        program = ("import random, test_whole\nchance = random.Random(5)\n"
                   "for k in range(40):\n    print(test_whole.all_answers(*test_whole.any_case(chance)))\n")
        told = []
        for seed in ("0", "1", "77"):
            ran = subprocess.run([sys.executable, "-c", program], capture_output=True, text=True, check=True, env={
                **os.environ, "PYTHONHASHSEED": seed, "PYTHONPATH": TOP + os.pathsep + os.path.join(TOP, "tests")})
            told.append(ran.stdout)
        self.assertEqual(told, told[:1] * 3)
        self.assertGreater(len(told[0]), 1000)

    def test_recipes_of_texts_serve_all_alike(self):
        house = ({"a": 1}, {"n": read_recipe("(a + 1)")})
        store = Store()
        store.build(house, ["n"])
        self.assertEqual(show_recipe(store.records()[0][0]), "(a + 1)")
        self.assertEqual(store.build(({"a": 1}, {"m": ("plus", read("a"), num(1))}), ["m"])[2], ["m"])


if __name__ == "__main__":
    unittest.main()
