"""Promises [2], [3], [6]: what a key is, and what is none."""

import copy
import unittest

from helper import (
    DEEP_TUPLES, GOOD, LONG_TUPLES, NOT_GOOD_ANYWHERE, NUMBERS, OTHERS, TEXTS, TUPLES, WRONG_NUMBERS, WRONG_TEXTS,
    all_wrong, nested, tuples_with,
)
from slotbook.errors import NoKey
from slotbook.keys import checked, is_key


class TestIsKey(unittest.TestCase):
    def assert_told(self, things, asked):
        for number, thing in enumerate(things):
            # Told by number, for not every wrong thing can be written out.
            self.assertIs(is_key(thing), asked, f"thing {number}")

    def test_numbers(self):
        self.assert_told(NUMBERS, True)

    def test_numbers_at_and_beyond_the_bounds(self):
        self.assert_told(WRONG_NUMBERS, False)

    def test_texts(self):
        self.assert_told(TEXTS, True)

    def test_texts_of_too_many_signs(self):
        self.assert_told(WRONG_TEXTS, False)

    def test_tuples(self):
        self.assert_told(TUPLES, True)

    def test_tuples_of_too_many_parts(self):
        self.assert_told(LONG_TUPLES, False)

    def test_tuples_too_deep(self):
        self.assert_told(DEEP_TUPLES, False)

    def test_depth_of_a_tuple_around_each_kind(self):
        for inner, deepest in ((5, 3), ("a", 3), ((), 2)):
            for levels in range(7):
                self.assertIs(is_key(nested(inner, levels)), levels <= deepest, (inner, levels))

    def test_truths_are_no_numbers(self):
        self.assert_told([True, False, (True,), (False,), (1, True), ((0, False),)], False)

    def test_other_things(self):
        self.assert_told(OTHERS, False)

    def test_keys_in_tuples_at_each_place_and_depth(self):
        for thing in NUMBERS + TEXTS:
            self.assert_told(tuples_with(thing), True)

    def test_wrong_things_in_tuples_at_each_place_and_depth(self):
        for thing in NOT_GOOD_ANYWHERE:
            self.assert_told(tuples_with(thing), False)

    def test_argument_by_its_name(self):
        self.assertIs(is_key(thing=1), True)
        self.assertIs(is_key(thing=None), False)

    def test_a_list_that_holds_itself(self):
        ring = []
        ring.append(ring)
        self.assert_told([ring, (ring,), ((1, ring),)], False)


class TestChecked(unittest.TestCase):
    def test_a_key_is_told_itself(self):
        for key in GOOD:
            self.assertIs(checked(key), key)

    def test_what_is_no_key_is_refused(self):
        for number, thing in enumerate(all_wrong()):
            with self.assertRaises(NoKey, msg=f"thing {number}") as taken:
                checked(thing)
            self.assertIs(taken.exception.__class__, NoKey)

    def test_argument_by_its_name(self):
        self.assertEqual(checked(thing=(1, "a")), (1, "a"))
        with self.assertRaises(NoKey):
            checked(thing=None)


class TestNothingIsChanged(unittest.TestCase):
    def test_lists_and_dicts_stay_as_they_are(self):
        things = [[3, 1, [2]], {"b": [1], "a": 2}, ([3, 1],), (1, ({"b": 1, "a": [2]},)), [(1, 2), [True]]]
        for thing in things:
            kept = copy.deepcopy(thing)
            is_key(thing)
            with self.assertRaises(NoKey):
                checked(thing)
            self.assertEqual(repr(thing), repr(kept))


if __name__ == "__main__":
    unittest.main()
