"""Promises 2, 4 and 5: names, recipes, houses, told of anything."""

import copy
import unittest

from madeagain.recipes import is_house, is_recipe, names_in

ONE = ("number", 1)
X = ("read", "x")
JOINS = ("plus", "minus", "times", "most")

# Things of many kinds, none of them a recipe, a name, a whole number or a house.
ANYTHING = (
    None, True, False, 1.5, 1j, "", "number", "A", b"a", [], ["a"], (), ("a",), {}, {"a": 1}, set(), frozenset(),
    object(), int, len, range(3), ["number", 1], ["read", "a"], {"number": 1}, (1, 2), ((), ()), [{}, {}],
)


class Hostile:
    """Compares and hashes with an error: to be told of without being asked."""

    def __eq__(self, other):
        raise RuntimeError("asked")

    def __hash__(self):
        return 1

    def __bool__(self):
        raise RuntimeError("asked")


def sum_of(leaves):
    """A flat plus of so many numbers: 2 * leaves - 1 recipes in all."""
    row = [ONE] * leaves
    while len(row) > 1:
        pairs = [("plus", row[k], row[k + 1]) for k in range(0, len(row) - 1, 2)]
        row = pairs + (row[-1:] if len(row) % 2 else [])
    return row[0]


def chain_of(length, wrap):
    r = ONE
    for _ in range(length - 1):
        r = wrap(r)
    return r


WRAPS = [
    lambda r: ("plus", r, ONE), lambda r: ("minus", ONE, r), lambda r: ("times", r, ONE), lambda r: ("most", ONE, r),
    lambda r: ("pick", r, ONE, ONE), lambda r: ("pick", ONE, r, ONE), lambda r: ("pick", ONE, ONE, r),
    lambda r: ("choose", r, ("a",)),
]


class Kinds(unittest.TestCase):
    def test_each_kind(self):
        self.assertIs(is_recipe(ONE), True)
        self.assertIs(is_recipe(X), True)
        for kind in JOINS:
            self.assertIs(is_recipe((kind, ONE, X)), True, kind)
        self.assertIs(is_recipe(("pick", X, ONE, X)), True)
        self.assertIs(is_recipe(("choose", X, ("a", "b"))), True)

    def test_no_recipe_among_anything(self):
        for thing in ANYTHING:
            self.assertIs(is_recipe(thing), False, repr(thing))

    def test_what_compares_with_an_error(self):
        odd = Hostile()
        for thing in (odd, (odd,), (odd, 1), ("number", odd), ("read", odd), ("plus", odd, ONE), ("plus", ONE, odd),
                      ("choose", ONE, odd), ("choose", ONE, (odd,)), ("choose", odd, ("a",))):
            self.assertIs(is_recipe(thing), False)

    def test_numbers_of_any_size(self):
        for n in (0, 1, -1, 10 ** 39, -10 ** 40, 10 ** 100, 10 ** 6000, -10 ** 6000):
            self.assertTrue(is_recipe(("number", n)))
            self.assertTrue(is_house(({"a": n}, {"b": ("number", n)})))

    def test_a_truth_is_no_number(self):
        self.assertIs(is_recipe(("number", True)), False)
        self.assertIs(is_recipe(("number", False)), False)
        self.assertIs(is_recipe(("plus", ONE, ("number", True))), False)

    def test_what_is_no_whole_number(self):
        for n in (1.0, "1", None, (1,), [1], 1j, ONE):
            self.assertIs(is_recipe(("number", n)), False, repr(n))

    def test_a_list_in_the_place_of_a_tuple(self):
        for r in (ONE, X, ("plus", ONE, X), ("pick", X, ONE, X), ("choose", X, ("a",))):
            self.assertTrue(is_recipe(r))
            self.assertIs(is_recipe(list(r)), False)
            self.assertIs(is_recipe(("plus", list(r), ONE)), False)
            self.assertIs(is_recipe(("plus", ONE, list(r))), False)
            self.assertIs(is_recipe(("choose", list(r), ("a",))), False)

    def test_a_part_too_few_or_too_many(self):
        whole = [ONE, X, ("pick", X, ONE, X), ("choose", X, ("a",))] + [(kind, ONE, X) for kind in JOINS]
        for r in whole:
            for end in range(len(r)):
                self.assertIs(is_recipe(r[:end]), False, r[:end])
            for more in (r[-1], ONE, None, "a", ("a",)):
                self.assertIs(is_recipe(r + (more,)), False, r + (more,))

    def test_an_unknown_or_no_first_word(self):
        for word in ("", "Number", "number ", "add", "join", "branch", "among", "given", 1, None, True, ("plus",),
                     ["plus"], {}, b"plus", 1.0):
            self.assertIs(is_recipe((word,)), False, repr(word))
            self.assertIs(is_recipe((word, 1)), False, repr(word))
            self.assertIs(is_recipe((word, ONE, ONE)), False, repr(word))
            self.assertIs(is_recipe((word, ONE, ONE, ONE)), False, repr(word))

    def test_what_is_no_recipe_within(self):
        for thing in ANYTHING + (1, 0, "a"):
            for kind in JOINS:
                self.assertIs(is_recipe((kind, thing, ONE)), False, repr(thing))
                self.assertIs(is_recipe((kind, ONE, thing)), False, repr(thing))
            self.assertIs(is_recipe(("pick", thing, ONE, ONE)), False, repr(thing))
            self.assertIs(is_recipe(("pick", ONE, thing, ONE)), False, repr(thing))
            self.assertIs(is_recipe(("pick", ONE, ONE, thing)), False, repr(thing))
            self.assertIs(is_recipe(("choose", thing, ("a",))), False, repr(thing))

    def test_what_holds_itself(self):
        ring = []
        ring.append(ring)
        held = ("plus", ring, ONE)
        ring.append(held)
        self.assertIs(is_recipe(ring), False)
        self.assertIs(is_recipe(held), False)


class Names(unittest.TestCase):
    good = ("a", "z", "abcdefgh", "zzzzzzzz", "number", "read")
    wrong = ("", "abcdefghi", "A", "aB", "a1", "1", "_", "a_b", "a b", " a", "a ", "a\n", "\n", "a\t", "\u00e4",
             "\u0430", "\u00df", "\uff41", "a-b", "a,b", None, 1, True, ("a",), ["a"], b"a")

    def test_in_a_read(self):
        for name in self.good:
            self.assertIs(is_recipe(("read", name)), True, repr(name))
        for name in self.wrong:
            self.assertIs(is_recipe(("read", name)), False, repr(name))

    def test_in_a_choose(self):
        for name in self.good:
            self.assertIs(is_recipe(("choose", ONE, (name,))), True, repr(name))
        for name in self.wrong:
            self.assertIs(is_recipe(("choose", ONE, (name,))), False, repr(name))
            self.assertIs(is_recipe(("choose", ONE, ("a", name))), False, repr(name))
            self.assertIs(is_recipe(("choose", ONE, (name, "a"))), False, repr(name))

    def test_how_many_in_a_choose(self):
        for many in range(1, 10):
            self.assertIs(is_recipe(("choose", ONE, tuple("abcdefghi"[:many]))), True, many)
        self.assertIs(is_recipe(("choose", ONE, ("a",) * 9)), True)
        for names in ((), tuple("abcdefghij"), ("a",) * 10, ["a", "b"], [], "ab", "a", {"a": 1}, {"a"}, None, 1):
            self.assertIs(is_recipe(("choose", ONE, names)), False, repr(names))


class Bounds(unittest.TestCase):
    def test_depth(self):
        for wrap in WRAPS:
            self.assertIs(is_recipe(chain_of(7, wrap)), True)
            self.assertIs(is_recipe(chain_of(8, wrap)), True)
            self.assertIs(is_recipe(chain_of(9, wrap)), False)
            self.assertIs(is_recipe(chain_of(10, wrap)), False)

    def test_how_many_in_all(self):
        self.assertIs(is_recipe(sum_of(50)), True)
        self.assertIs(is_recipe(("choose", sum_of(50), ("a",))), True)
        self.assertIs(is_recipe(sum_of(51)), False)
        self.assertIs(is_recipe(("choose", ("choose", sum_of(50), ("a",)), ("a",))), False)

    def test_one_that_stands_there_twice_counts_twice(self):
        half = sum_of(25)
        self.assertIs(is_recipe(("choose", ("plus", half, half), ("a",))), True)
        third = sum_of(17)
        self.assertIs(is_recipe(("pick", third, third, ONE)), True)
        self.assertIs(is_recipe(("pick", third, third, third)), True)
        self.assertIs(is_recipe(("pick", half, half, ("number", 1))), True)
        self.assertIs(is_recipe(("pick", half, half, ("choose", ONE, ("a",)))), False)

    def test_some_thousands_within_one_another(self):
        for wrap in WRAPS:
            self.assertIs(is_recipe(chain_of(20000, wrap)), False)
        self.assertIs(is_recipe(chain_of(5000, lambda r: ("plus", r, r))), False)
        self.assertIs(is_recipe(chain_of(5000, lambda r: ("pick", r, r, r))), False)
        self.assertIs(is_recipe(chain_of(5000, lambda r: (r,))), False)
        self.assertIs(is_recipe(chain_of(5000, lambda r: [r])), False)
        self.assertIs(is_house(({}, {"a": chain_of(20000, WRAPS[0])})), False)


class Houses(unittest.TestCase):
    def test_houses(self):
        for house in (({}, {}), ({"a": 1}, {}), ({}, {"a": ONE}), ({"a": 1, "b": -2}, {"c": X, "d": ONE}),
                      ({}, {"a": ("read", "a")})):
            self.assertIs(is_house(house), True, house)

    def test_one_name_in_both(self):
        self.assertIs(is_house(({"a": 1}, {"a": ONE})), False)
        self.assertIs(is_house(({"b": 1, "a": 1}, {"c": ONE, "a": ONE})), False)

    def test_a_key_that_is_no_name(self):
        keys = ("", "abcdefghi", "A", "a1", "a\n", "\u00e4", None, 1, 0, True, 1.5, ("a",), frozenset("a"), b"a", len,
                Hostile())
        for key in keys:
            self.assertIs(is_house(({key: 1}, {})), False)
            self.assertIs(is_house(({}, {key: ONE})), False)
            self.assertIs(is_house(({"a": 1}, {"b": ONE, key: ONE})), False)

    def test_a_given_thing_that_is_no_whole_number(self):
        for thing in (True, False, 1.0, "1", None, (1,), ONE, [1], Hostile()):
            self.assertIs(is_house(({"a": thing}, {})), False)
            self.assertIs(is_house(({"b": 1, "a": thing}, {})), False)

    def test_a_thing_that_is_no_recipe(self):
        for thing in ANYTHING + (1, ["number", 1], ("number", True), chain_of(9, WRAPS[0]), Hostile()):
            self.assertIs(is_house(({}, {"a": thing})), False)
            self.assertIs(is_house(({}, {"b": ONE, "a": thing})), False)

    def test_wrong_shapes(self):
        for thing in (({},), ({}, {}, {}), (), [{}, {}], ([], {}), ({}, []), ((), ()), ({}, None), (None, {}),
                      ("", {}), ({}, (("a", ONE),)), ([("a", 1)], {}), {}, {"a": 1}, ({}, set())):
            self.assertIs(is_house(thing), False, repr(thing))
        for thing in ANYTHING:
            self.assertIs(is_house(thing), False, repr(thing))


class NamesIn(unittest.TestCase):
    def test_none(self):
        self.assertEqual(names_in(ONE), [])
        self.assertEqual(names_in(("plus", ONE, ONE)), [])

    def test_reads_rising_each_once(self):
        r = ("plus", ("read", "z"), ("times", ("read", "ab"), ("minus", ("read", "a"), ("read", "z"))))
        self.assertEqual(names_in(r), ["a", "ab", "z"])

    def test_all_names_of_a_choose(self):
        r = ("choose", ("choose", ("read", "q"), ("m", "b", "m")), ("z", "b", "aa"))
        self.assertEqual(names_in(r), ["aa", "b", "m", "q", "z"])

    def test_all_parts_of_a_pick(self):
        r = ("pick", ("read", "c"), ("read", "b"), ("most", ("read", "a"), ("number", 3)))
        self.assertEqual(names_in(r), ["a", "b", "c"])

    def test_words_of_recipes_are_names_only_where_they_are_read(self):
        self.assertEqual(names_in(("plus", ("read", "number"), ("number", 1))), ["number"])


class Untouched(unittest.TestCase):
    def test_what_is_handed_in_stays(self):
        house = ({"a": 1}, {"b": ("choose", X, ("a", "b"))})
        before = copy.deepcopy(house)
        is_house(house)
        is_recipe(house[1]["b"])
        names_in(house[1]["b"])
        self.assertEqual(house, before)

    def test_a_told_list_is_the_askers_own(self):
        r = ("choose", X, ("b", "a"))
        told = names_in(r)
        told.append("zz")
        again = names_in(r)
        self.assertEqual(again, ["a", "b", "x"])
        self.assertIsNot(again, names_in(r))


if __name__ == "__main__":
    unittest.main()
