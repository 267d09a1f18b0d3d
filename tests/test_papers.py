"""Promises 2, 12 and 13: papers and their chains."""

import copy
import random
import unittest

from madeagain.again import build_again
from madeagain.errors import NoName, Ring
from madeagain.fresh import fresh_build
from madeagain.papers import chain_of, paper_shows, papers_of
from plain import NAMES, all_different, answer, any_house, any_records, any_wishes, num, read, refused

OLD = ("plus", read("a"), num(1))
NOW = ("plus", read("a"), num(2))
RECIPES = {"b": NOW, "c": ("times", read("a"), read("b")), "d": read("g"), "e": read("c"), "n": num(1), "w": read("d")}
BEFORE = ({"a": 1, "g": 2}, {**RECIPES, "b": OLD})
HOUSE = ({"a": 1, "g": 2, "o": 5}, RECIPES)
WISHES = ["e", "n", "w"]
RECORDS = {name: record for name, record in fresh_build(BEFORE, WISHES)[1].items() if name != "n"}
WORTHS = fresh_build(HOUSE, WISHES)[0]
PAPERS = {
    "a": ("given",), "g": ("given",), "b": ("recipe", OLD, NOW), "c": ("read", 1, 2, 3), "d": ("alike",),
    "e": ("read", 0, 2, 3), "n": ("new",), "w": ("alike",),
}

# Tuples that are nobody's paper, though some are alike to one by Python's own ==.
NO_PAPERS = [
    (), ("",), ("given", None), ("given", 1), ("giv",), (("given",),), ("new", ()), ("alike", 0), ("made",), ("kept",),
    ("read",), ("read", 1), ("read", 1, 2), ("read", 1, 2, 3, 4), ("read", True, 2, 3), ("read", 1.0, 2, 3),
    ("read", 1, 2.0, 3), ("read", 1, 2, 3.0), ("read", False, 2, 3), ("read", 0.0, 2, 3), ("read", 1, None, 3),
    ("read", "1", 2, 3), ("read", -1, 2, 3), ("read", 1, 3, 2), ("read", 2, 2, 3), ("read", [1], 2, 3),
    ("recipe",), ("recipe", OLD), ("recipe", NOW, OLD), ("recipe", OLD, OLD), ("recipe", NOW, NOW),
    ("recipe", OLD, NOW, NOW), ("recipe", ("plus", read("a"), num(True)), NOW), ("recipe", list(OLD), NOW),
    ("recipe", OLD, ("plus", read("a"), num(2.0))), ("recipe", ("plus", ["read", "a"], num(1)), NOW), (None,), (1,),
]


class Hostile:
    """Says that it is equal to all, or refuses to be compared at all."""

    def __init__(self, says):
        self.says = says

    def __eq__(self, other):
        if self.says is None:
            raise RuntimeError("asked")
        return self.says

    def __hash__(self):
        return 1


def deep_tuple():
    thing = ()
    for _ in range(50000):
        thing = (thing,)
    return thing


def papers_near(house, records, papers):
    """Many tuples: all papers told, and those with another place, number, recipe or kind."""
    told = list(papers.values()) + [("given",), ("new",), ("alike",)]
    for paper in papers.values():
        if paper[0] == "read":
            told.extend([("read", paper[1] + 1) + paper[2:], ("read", paper[1] - 1) + paper[2:]])
            told.extend([paper[:2] + (paper[2] + 1, paper[3]), paper[:3] + (paper[3] + 1,), paper[:2] + paper[:1:-1]])
    recipes = list(house[1].values()) + [record[0] for record in records.values()]
    told.extend(("recipe", recipes[0], r) for r in recipes)
    told.extend(("recipe", r, recipes[-1]) for r in recipes)
    for name in records:
        for k, (other, number) in enumerate(records[name][1]):
            told.append(("read", k, number, number))
            told.append(("read", k, number, number + 1))
    return told


class Papers(unittest.TestCase):
    def test_each_kind_is_told(self):
        self.assertEqual(papers_of(HOUSE, RECORDS, WISHES), PAPERS)

    def test_their_kinds(self):
        told = papers_of(HOUSE, RECORDS, WISHES)
        self.assertIs(type(told), dict)
        self.assertEqual({type(paper) for paper in told.values()}, {tuple})
        self.assertEqual([type(part) for part in told["c"]], [str, int, int, int])

    def test_just_the_names_gone_to(self):
        self.assertEqual(papers_of(HOUSE, RECORDS, ["d"]), {"d": ("alike",), "g": ("given",)})
        self.assertEqual(papers_of(HOUSE, RECORDS, ["o", "o"]), {"o": ("given",)})
        self.assertEqual(papers_of(HOUSE, RECORDS, []), {})

    def test_from_no_records_all_are_new(self):
        self.assertEqual(papers_of(HOUSE, {}, ["c"]), {"a": ("given",), "b": ("new",), "c": ("new",)})

    def test_a_record_of_a_name_that_is_given_now(self):
        house = ({"a": 1, "b": 2}, {"c": RECIPES["c"]})
        self.assertEqual(papers_of(house, RECORDS, ["c"]), {"a": ("given",), "b": ("given",), "c": ("alike",)})

    def test_the_first_unlike_read_counts(self):
        recipes = {"b": ("plus", ("plus", read("x"), read("y")), read("z"))}
        records = fresh_build(({"x": 1, "y": 2, "z": 3}, recipes), ["b"])[1]
        for x, y, z, paper in ((1, 2, 3, ("alike",)), (0, 2, 3, ("read", 0, 1, 0)), (1, 5, 3, ("read", 1, 2, 5)),
                               (1, 2, -3, ("read", 2, 3, -3)), (1, 3, 2, ("read", 1, 2, 3)), (3, 1, 2, ("read", 0, 1, 3))):
            self.assertEqual(papers_of(({"x": x, "y": y, "z": z}, recipes), records, ["b"])["b"], paper)

    def test_what_lies_behind_another_recipe_is_not_looked_at(self):
        records = {"b": (OLD, None, "none"), "n": (num(2), 5, [])}
        self.assertEqual(papers_of(HOUSE, records, ["b", "n"]),
                         {"a": ("given",), "b": ("recipe", OLD, NOW), "n": ("recipe", num(2), num(1))})

    def test_refused_as_worths_are(self):
        with self.assertRaises(NoName) as caught:
            papers_of(HOUSE, RECORDS, ["d", "none"])
        self.assertEqual(caught.exception.name, "none")
        with self.assertRaises(NoName) as caught:
            papers_of(({}, RECIPES), RECORDS, ["c"])
        self.assertEqual(caught.exception.name, "a")
        with self.assertRaises(Ring) as caught:
            papers_of(({}, {**RECIPES, "a": read("e")}), RECORDS, ["c"])
        self.assertEqual(caught.exception.ring, ["c", "a", "e", "c"])


class Shows(unittest.TestCase):
    def shows(self, name, paper):
        told = paper_shows(HOUSE, RECORDS, WORTHS, name, paper)
        self.assertIs(type(told), bool)
        return told

    def test_just_the_one_told(self):
        for name, paper in PAPERS.items():
            for other in list(PAPERS.values()) + NO_PAPERS:
                self.assertIs(self.shows(name, other), other is paper or repr(other) == repr(paper), (name, other))

    def test_an_equal_tuple_shows_too(self):
        for name, paper in PAPERS.items():
            self.assertIs(self.shows(name, copy.deepcopy(paper)), True)
            self.assertIs(self.shows(name, tuple(list(paper))), True)

    def test_hostile_tuples(self):
        for says in (True, None):
            for name in PAPERS:
                for paper in ((Hostile(says),), ("read", Hostile(says), 2, 3), ("read", 1, Hostile(says), 3),
                              ("recipe", Hostile(says), NOW), ("recipe", OLD, Hostile(says))):
                    self.assertIs(self.shows(name, paper), False)

    def test_very_deep_tuples(self):
        deep = deep_tuple()
        for name in PAPERS:
            for paper in (deep, (deep,), ("recipe", deep, deep), ("recipe", OLD, deep), ("read", 1, 2, deep)):
                self.assertIs(self.shows(name, paper), False)

    def test_of_a_name_that_was_not_gone_to(self):
        for name in ("o", "none", "zzz"):
            for paper in list(PAPERS.values()) + NO_PAPERS:
                self.assertIs(self.shows(name, paper), False, (name, paper))
        worths = fresh_build(HOUSE, ["d"])[0]
        for name, paper in PAPERS.items():
            self.assertIs(paper_shows(HOUSE, RECORDS, worths, name, paper), name in ("d", "g"), name)
            self.assertIs(paper_shows(HOUSE, RECORDS, {}, name, paper), False)

    def test_of_a_record_of_a_name_not_gone_to(self):
        for paper in list(PAPERS.values()) + NO_PAPERS:
            self.assertIs(paper_shows(({}, {}), RECORDS, {}, "b", paper), False)


class Chains(unittest.TestCase):
    def test_up_to_another_recipe(self):
        self.assertEqual(chain_of(PAPERS, RECORDS, "e"), [("e", PAPERS["e"]), ("c", PAPERS["c"]), ("b", PAPERS["b"])])
        self.assertEqual(chain_of(PAPERS, RECORDS, "c"), [("c", PAPERS["c"]), ("b", PAPERS["b"])])
        self.assertEqual(chain_of(PAPERS, RECORDS, "b"), [("b", PAPERS["b"])])

    def test_up_to_a_new_name(self):
        self.assertEqual(chain_of(PAPERS, RECORDS, "n"), [("n", ("new",))])
        house = ({}, {"b": num(3), "c": read("b")})
        records = {"c": (read("b"), [("b", 2)], 2)}
        papers = papers_of(house, records, ["c"])
        self.assertEqual(chain_of(papers, records, "c"), [("c", ("read", 0, 2, 3)), ("b", ("new",))])

    def test_up_to_a_given_number(self):
        recipes = {"b": read("a"), "c": ("plus", num(1), read("b"))}
        records = fresh_build(({"a": 1}, recipes), ["c"])[1]
        papers = papers_of(({"a": 2}, recipes), records, ["c"])
        self.assertEqual(chain_of(papers, records, "c"), [("c", ("read", 0, 1, 2)), ("b", ("read", 0, 1, 2))])
        self.assertEqual(chain_of(papers, records, "b"), [("b", ("read", 0, 1, 2))])

    def test_up_to_a_kept_name(self):
        house = ({"a": 1}, {"b": read("a"), "c": read("b")})
        records = {"b": (read("a"), [("a", 1)], 1), "c": (read("b"), [("b", 6)], 6)}
        papers = papers_of(house, records, ["c"])
        self.assertEqual(chain_of(papers, records, "c"), [("c", ("read", 0, 6, 1))])

    def test_by_the_read_that_is_unlike_alone(self):
        recipes = {"x": read("g"), "y": read("h"), "z": ("plus", read("x"), read("y"))}
        records = fresh_build(({"g": 1, "h": 2}, recipes), ["z"])[1]
        papers = papers_of(({"g": 1, "h": 3}, recipes), records, ["z"])
        self.assertEqual(chain_of(papers, records, "z"), [("z", ("read", 1, 2, 3)), ("y", ("read", 0, 2, 3))])

    def test_none_of_names_alike_or_given(self):
        for name in ("d", "w", "a", "g"):
            self.assertEqual(chain_of(PAPERS, RECORDS, name), [])

    def test_a_long_one(self):
        names = [first + second for first in "abc" for second in "abcdefghij"]
        recipes = {name: read(ahead) for ahead, name in zip(names, names[1:])}
        records = fresh_build(({names[0]: 1}, recipes), names)[1]
        papers = papers_of(({names[0]: 2}, recipes), records, names)
        self.assertEqual(chain_of(papers, records, names[-1]), [(name, ("read", 0, 1, 2)) for name in names[:0:-1]])


class Whole(unittest.TestCase):
    def test_papers_show_what_was_done(self):
        chance = random.Random(12)
        kinds = {"given": 0, "new": 0, "recipe": 0, "read": 0, "alike": 0, "NoName": 0, "Ring": 0}
        for _ in range(1000):
            house = any_house(chance)
            records = any_records(chance, house)
            wishes = any_wishes(chance) + [chance.choice(NAMES)]
            before = copy.deepcopy((house, records, wishes))
            build = answer(lambda: build_again(house, records, wishes))
            papers = answer(lambda: papers_of(house, records, wishes))
            if refused(build):
                self.assertEqual(papers, build)
                kinds[papers[0]] += 1
                continue
            self.assertEqual(sorted(papers), sorted(build[0]))
            for name, paper in papers.items():
                kinds[paper[0]] += 1
                self.paper_is_right(house, records, build, name, paper)
                self.chain_is_right(papers, records, build, name)
            self.just_these_show(house, records, build[0], papers)
            self.assertEqual((house, records, wishes), before)
        self.assertTrue(min(kinds.values()) > 30, kinds)

    def paper_is_right(self, house, records, build, name, paper):
        worths = build[0]
        self.assertEqual(paper[0] == "given", name in house[0])
        self.assertEqual(paper[0] == "alike", name in build[3])
        self.assertEqual(paper[0] in ("new", "recipe", "read"), name in build[2])
        if paper[0] == "new":
            self.assertNotIn(name, records)
        if paper[0] == "recipe":
            self.assertEqual(paper, ("recipe", records[name][0], house[1][name]))
            self.assertNotEqual(paper[1], paper[2])
        if paper[0] == "read":
            reads = records[name][1]
            self.assertEqual(records[name][0], house[1][name])
            self.assertEqual(paper[2:], (reads[paper[1]][1], worths[reads[paper[1]][0]]))
            self.assertNotEqual(paper[2], paper[3])
            for other, number in reads[:paper[1]]:
                self.assertEqual(worths[other], number)

    def chain_is_right(self, papers, records, build, name):
        chain = chain_of(papers, records, name)
        self.assertEqual(chain == [], name not in build[2])
        for place, (made, paper) in enumerate(chain):
            self.assertIn(made, build[2])
            self.assertEqual(paper, papers[made])
            behind = records[made][1][paper[1]][0] if paper[0] == "read" else None
            if place + 1 < len(chain):
                self.assertEqual(behind, chain[place + 1][0])
            else:
                self.assertNotIn(behind, build[2])
        self.assertEqual([pair[0] for pair in chain[:1]], [name] if chain else [])

    def just_these_show(self, house, records, worths, papers):
        near = papers_near(house, records, papers)
        for name in NAMES + ["none"]:
            for paper in near:
                self.assertIs(paper_shows(house, records, worths, name, paper), papers.get(name) == paper)

    def test_what_is_told_is_the_askers_own(self):
        handed = (HOUSE, RECORDS, WISHES, WORTHS, PAPERS)
        before = copy.deepcopy(handed)
        first = papers_of(HOUSE, RECORDS, WISHES)
        chain = chain_of(first, RECORDS, "e")
        self.assertTrue(all_different([first, papers_of(HOUSE, RECORDS, WISHES), RECORDS, HOUSE]))
        self.assertTrue(all_different([chain, chain_of(first, RECORDS, "e"), RECORDS, first]))
        first.clear()
        chain.clear()
        chain_of(PAPERS, RECORDS, "d").append("more")
        self.assertEqual(papers_of(HOUSE, RECORDS, WISHES), PAPERS)
        self.assertEqual(len(chain_of(PAPERS, RECORDS, "e")), 3)
        self.assertEqual(chain_of(PAPERS, RECORDS, "d"), [])
        self.assertIs(paper_shows(HOUSE, RECORDS, WORTHS, "e", PAPERS["e"]), True)
        self.assertEqual(handed, before)


if __name__ == "__main__":
    unittest.main()
