"""Promises 2 and 24: which lists are traces of weavings."""

import copy
import random
import unittest

from madeagain.errors import MadeError
from madeagain.traces import trace_shows
from madeagain.weavings import woven
from plain import NAMES, PlainWeaving, answer, any_house, any_recipe, any_wishes, num, other_house, read, refused

HOUSE = ({"a": 2, "b": 5}, {
    "s": ("plus", read("a"), read("b")), "t": ("times", read("s"), read("u")), "u": ("plus", read("s"), num(1)),
    "n": num(4), "i": num(1), "o": num(0)})
TRACE = [("t", "waits", "s"), ("s", "known", 7), ("t", "waits", "u"), ("u", "known", 8), ("t", "known", 56)]


def same(step, other):
    return isinstance(other, tuple) and step == other and list(map(type, step)) == list(map(type, other))


def plain_shows(house, wishes, trace):
    """Point 24 straight: at each step any of those that may go is tried."""
    try:
        weaving = PlainWeaving(house, wishes)
    except MadeError:
        return False
    for step in trace:
        after = None
        for name in weaving.free():
            tried = copy.deepcopy(weaving)
            if same(tried_step(tried, name), step):
                after = tried
        if after is None:
            return False
        weaving = after
    return weaving.done()


def tried_step(weaving, name):
    try:
        return weaving.go(name)
    except MadeError:
        return ()


def all_traces(house, wishes):
    """Every weaving there is, by all choices at each step (of a house whose weavings are not refused)."""
    told = []
    todo = [(PlainWeaving(house, wishes), [])]
    while todo and len(told) < 400:
        weaving, trace = todo.pop()
        if weaving.done():
            told.append(trace)
        for name in weaving.free():
            after = copy.deepcopy(weaving)
            todo.append((after, trace + [after.go(name)]))
    return told


def any_choices(chance):
    return [chance.randint(-9, 9) for _ in range(40)]


def changed(chance, trace):
    trace = list(trace)
    place = chance.randrange(len(trace))
    name, word, last = trace[place]
    deed = chance.choice(["worth", "name", "other", "word", "swap", "out", "twice", "end", "cut", "odd"])
    if deed == "worth":
        trace[place] = (name, word, last + chance.choice([-1, 1]) if word == "known" else "a")
    elif deed == "name":
        trace[place] = (chance.choice(NAMES), word, last)
    elif deed == "other":
        trace[place] = (name, word, chance.choice(NAMES))
    elif deed == "word":
        trace[place] = (name, "known" if word == "waits" else "waits", last)
    elif deed == "swap":
        other = chance.randrange(len(trace))
        trace[place], trace[other] = trace[other], trace[place]
    elif deed == "out":
        trace.pop(place)
    elif deed == "twice":
        trace.insert(chance.randint(0, len(trace)), trace[place])
    elif deed == "end":
        trace.append(trace.pop(place))
    elif deed == "cut":
        trace = trace[:place]
    else:
        trace[place] = chance.choice([None, 1, name, [name, word, last], trace[place][:2], trace[place] * 2, (), {}])
    return trace


class Shows(unittest.TestCase):
    def true(self, house, wishes, trace):
        self.assertIs(trace_shows(house, wishes, trace), True, trace)

    def false(self, house, wishes, trace):
        self.assertIs(trace_shows(house, wishes, trace), False, trace)

    def test_traces_of_weavings(self):
        self.true(HOUSE, ["t"], TRACE)
        for wishes in (["t"], ["t", "u"], ["u", "n", "t"], ["s", "t", "a", "s"], ["n", "t", "i", "o"]):
            for choices in ([], [1], [1, 1, 1, 1], [-1, 2, 0, 3, 1]):
                self.true(HOUSE, wishes, woven(HOUSE, wishes, choices))

    def test_none_to_be_done(self):
        self.true(HOUSE, [], [])
        self.true(HOUSE, ["a", "b", "a"], [])
        self.true(({}, {}), [], [])
        self.false(HOUSE, ["n"], [])
        self.false(HOUSE, [], [("n", "known", 4)])
        self.false(HOUSE, ["a"], [("a", "known", 2)])

    def test_a_worth_changed(self):
        for place in (1, 3, 4):
            for by in (1, -1, 10 ** 60):
                step = TRACE[place][:2] + (TRACE[place][2] + by,)
                self.false(HOUSE, ["t"], TRACE[:place] + [step] + TRACE[place + 1:])

    def test_a_name_changed(self):
        for place, step in enumerate(TRACE):
            for name in ("s", "t", "u", "n", "a", "none", ""):
                if name != step[0]:
                    self.false(HOUSE, ["t"], TRACE[:place] + [(name,) + step[1:]] + TRACE[place + 1:])
        for other in ("t", "u", "n", "a", "none", "", 7):
            self.false(HOUSE, ["t"], [("t", "waits", other)] + TRACE[1:])

    def test_a_word_changed(self):
        for place, step in enumerate(TRACE):
            for word in ("known", "waits", "wait", "", None, "Known"):
                if word != step[1]:
                    self.false(HOUSE, ["t"], TRACE[:place] + [(step[0], word, step[2])] + TRACE[place + 1:])

    def test_the_order_of_two_steps_changed(self):
        for place in range(4):
            self.false(HOUSE, ["t"], TRACE[:place] + TRACE[place:place + 2][::-1] + TRACE[place + 2:])

    def test_an_order_that_may_be_changed(self):
        trace = [("u", "waits", "s"), ("n", "known", 4), ("s", "known", 7), ("u", "known", 8)]
        self.true(HOUSE, ["u", "n"], trace)
        self.true(HOUSE, ["n", "u"], trace)
        self.true(HOUSE, ["u", "n"], [trace[1], trace[0]] + trace[2:])
        self.true(HOUSE, ["u", "n"], [trace[0]] + trace[2:] + [trace[1]])
        self.false(HOUSE, ["u", "n"], [trace[0], trace[3], trace[1], trace[2]])
        self.false(HOUSE, ["u"], trace)
        self.false(HOUSE, ["u", "n", "i"], trace)

    def test_a_wish_is_begun_ahead_of_all(self):
        self.true(HOUSE, ["u", "s"], [("s", "known", 7), ("u", "known", 8)])
        self.false(HOUSE, ["u"], [("s", "known", 7), ("u", "known", 8)])

    def test_left_out_told_twice_or_put_to_the_end(self):
        for place in range(5):
            self.false(HOUSE, ["t"], TRACE[:place] + TRACE[place + 1:])
            if place < 4:
                self.false(HOUSE, ["t"], TRACE[:place] + TRACE[place + 1:] + [TRACE[place]])
            for other in range(6):
                self.false(HOUSE, ["t"], TRACE[:other] + [TRACE[place]] + TRACE[other:])
            self.false(HOUSE, ["t"], TRACE[:place])
        self.false(HOUSE, ["t"], TRACE + TRACE)

    def test_one_that_waits_does_not_go_on(self):
        self.false(HOUSE, ["t"], [("t", "waits", "s")] + TRACE)
        self.false(HOUSE, ["t", "u"], [("t", "waits", "s"), ("t", "waits", "u")] + TRACE[1:])

    def test_lists_of_anything(self):
        for thing in (None, 1, True, "t", "abc", [], (), {}, object(), 1.5, ("t",), ("t", "waits"),
                      ["t", "waits", "s"], ("t", "waits", "s", "s"), (["t"], "waits", "s"), ({}, "waits", "s"),
                      ("t", ["waits"], "s"), ("t", "waits", ["s"]), (1, 2, 3), (None, None, None),
                      (("t",), "waits", "s"), ("t", "waits", None), set(), b"t", ("t", "waits", "s", None),
                      [("t", "waits", "s")], {"t": 1, "waits": 2, "s": 3}):
            self.false(HOUSE, ["t"], [thing])
            self.false(HOUSE, ["t"], [thing] + TRACE)
            self.false(HOUSE, ["t"], TRACE + [thing])
            self.false(HOUSE, ["t"], [thing] + TRACE[1:])
            self.false(HOUSE, ["t"], TRACE[:1] + [thing] + TRACE[1:])
            self.false(HOUSE, [], [thing])

    def test_lists_for_tuples(self):
        self.false(HOUSE, ["t"], [list(step) for step in TRACE])

    def test_no_truths_for_whole_numbers(self):
        self.true(HOUSE, ["i", "o"], [("i", "known", 1), ("o", "known", 0)])
        for first, second in ((True, 0), (1, False), (1.0, 0), (1, 0.0), (1, None), ("1", 0)):
            self.false(HOUSE, ["i", "o"], [("i", "known", first), ("o", "known", second)])

    def test_houses_whose_weavings_are_refused(self):
        house = ({}, {"x": read("y"), "y": read("x"), "u": ("plus", read("n"), read("none")), "n": num(1)})
        for wishes, trace in (
                (["x"], []), (["x"], [("x", "waits", "y")]), (["x"], [("x", "waits", "y"), ("y", "waits", "x")]),
                (["x"], [("x", "waits", "y"), ("y", "waits", "x"), ("x", "known", 1), ("y", "known", 1)]),
                (["u"], [("u", "waits", "n"), ("n", "known", 1)]),
                (["u"], [("u", "waits", "n"), ("n", "known", 1), ("u", "waits", "none")]),
                (["u"], [("u", "waits", "n"), ("n", "known", 1), ("u", "known", 1)]),
                (["n", "none"], [("n", "known", 1)]), (["none"], []), (["n", "x"], [("n", "known", 1)])):
            self.false(house, wishes, trace)
        self.true(house, ["n"], [("n", "known", 1)])

    def test_a_ring_beside_what_is_done(self):
        house = ({}, {"r": read("r"), "n": num(1)})
        self.false(house, ["r", "n"], [("r", "waits", "r"), ("n", "known", 1)])

    def test_nothing_handed_in_is_changed(self):
        for trace in (TRACE, TRACE[1:], [[1], {}]):
            wishes = ["t", "u"]
            before = copy.deepcopy((HOUSE, wishes, trace))
            self.assertEqual(trace_shows(HOUSE, wishes, trace), trace_shows(HOUSE, wishes, trace))
            self.assertEqual((HOUSE, wishes, trace), before)


class Whole(unittest.TestCase):
    def test_against_the_plain_words(self):
        chance = random.Random(24)
        seen = {True: 0, False: 0}
        for _ in range(1200):
            house = other_house(chance, any_house(chance))
            wishes = any_wishes(chance) + [chance.choice(NAMES)]
            trace = answer(lambda: woven(house, wishes, any_choices(chance)))
            if refused(trace):
                continue
            self.assertIs(trace_shows(house, wishes, trace), True)
            for _ in range(4):
                other = changed(chance, trace) if trace else [(NAMES[0], "known", 1)]
                told = trace_shows(house, wishes, other)
                self.assertIs(told, plain_shows(house, wishes, other), (house, wishes, other))
                seen[told] += 1
        self.assertTrue(min(seen.values()) > 100, seen)

    def test_of_the_weavings_of_another_house(self):
        chance = random.Random(241)
        seen = {True: 0, False: 0}
        for _ in range(1500):
            house = any_house(chance)
            wishes = any_wishes(chance) + NAMES[-1:]
            trace = answer(lambda: woven(house, wishes, any_choices(chance)))
            if not refused(trace):
                other = other_house(chance, house)
                told = trace_shows(other, wishes, trace)
                self.assertIs(told, plain_shows(other, wishes, trace), (other, wishes, trace))
                seen[told] += 1
        self.assertTrue(min(seen.values()) > 100, seen)

    def test_of_tangled_houses(self):
        chance = random.Random(242)
        for _ in range(300):
            house = ({}, {name: any_recipe(chance, NAMES, 2) for name in NAMES})
            weaving = PlainWeaving(house, NAMES[:3])
            trace = []
            for _ in range(chance.randint(0, 20)):
                if weaving.free():
                    trace.append(weaving.go(chance.choice(weaving.free())))
            self.assertIs(trace_shows(house, NAMES[:3], trace), weaving.done(), (house, trace))

    def test_just_the_traces_there_are(self):
        house = ({"a": 1}, {"x": ("plus", read("y"), read("z")), "y": read("a"), "z": read("y")})
        for wishes in (["x"], ["x", "z"], ["z", "y"], ["y", "x", "z"]):
            traces = all_traces(house, wishes)
            steps = sorted({step for trace in traces for step in trace}, key=repr)
            self.assertTrue(1 < len(traces) < 400 or wishes == ["x"], len(traces))
            for trace in traces:
                self.assertIs(trace_shows(house, wishes, trace), True)
                for place in range(len(trace)):
                    for step in steps:
                        other = trace[:place] + [step] + trace[place + 1:]
                        self.assertIs(trace_shows(house, wishes, other), other in traces, other)


if __name__ == "__main__":
    unittest.main()
