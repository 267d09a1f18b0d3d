"""The interface's errors: each refusal has its own class under MadeError."""

import unittest

from madeagain import errors

REFUSALS = ("NoName", "Ring", "NoRead", "NoRecord", "NoDeed", "NoText", "NoRow")


class Errors(unittest.TestCase):
    def test_made_error_stands_under_value_error(self):
        self.assertTrue(issubclass(errors.MadeError, ValueError))

    def test_all_seven_stand_under_made_error(self):
        for word in REFUSALS:
            kind = getattr(errors, word)
            self.assertTrue(issubclass(kind, errors.MadeError), word)
            self.assertIsNot(kind, errors.MadeError, word)

    def test_none_of_the_seven_stands_under_another(self):
        for word in REFUSALS:
            for other in REFUSALS:
                if word != other:
                    self.assertFalse(issubclass(getattr(errors, word), getattr(errors, other)), (word, other))

    def test_no_name_has_its_name(self):
        with self.assertRaises(errors.MadeError) as caught:
            raise errors.NoName("abc")
        self.assertEqual(caught.exception.name, "abc")

    def test_ring_has_its_ring_as_a_list_of_its_own(self):
        names = ["a", "b", "a"]
        error = errors.Ring(names)
        names.append("c")
        self.assertEqual(error.ring, ["a", "b", "a"])
        self.assertIsInstance(error.ring, list)


if __name__ == "__main__":
    unittest.main()
