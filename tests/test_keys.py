"""Promises [2], [3], [6]: what a key is, and what is none."""

import copy
import unittest

from helper import Unhelpful
from slotbook.errors import NoKey
from slotbook.keys import checked, is_key

BOUND = 10 ** 60


def nested(inner, levels):
    """The inner thing, with so many tuples around it."""
    for level in range(levels):
        inner = (inner,)
    return inner


NUMBERS = [0, 1, -1, 2, -2, 7, 2147483647, -2147483648, 2 ** 64, BOUND - 2, BOUND - 1, 2 - BOUND, 1 - BOUND]
WRONG_NUMBERS = [BOUND, BOUND + 1, -BOUND, -BOUND - 1, 10 ** 61, -10 ** 61, 10 ** 5000, -10 ** 5000]
TEXTS = ["", " ", "a", "~", "0", "none", '"', "\\", "x" * 59, "x" * 60]
WRONG_TEXTS = ["x" * 61, "x" * 62, "x" * 5000]
TUPLES = [
    (), (0,), ("",), (1, "a"), (1, 1), (1, 2, 3, 4, 5, 6), ("a",) * 6, (BOUND - 1, 1 - BOUND, "x" * 60),
    ((),), ((1,),), (1, (2,)), ((1,), 2), ((), ()), ((1, 2, 3, 4, 5, 6),) * 6,
    (((),),), (((1,),),), (1, (2, (3,))), (((1,), 2), 3), ("a", ("b", ("c", "d"))), (1, (), (2, ("c",), ())),
    (((1, 2, 3, 4, 5, 6),) * 6,) * 6,
]
LONG_TUPLES = [(1,) * 7, ("a",) * 7, ((),) * 7, tuple(range(8)), (0,) * 5000]
DEEP_TUPLES = [
    ((((),),),), ((((1,),),),), (1, (2, (3, (4,)))), (1, 2, 3, 4, 5, (1, 2, 3, 4, 5, (1, 2, 3, 4, 5, ()))),
    ((((), 1), 1), 1), ((), ((), ((), ()))), nested((), 4), nested((), 49),
]
OTHERS = [
    True, False, None, [], [1], {}, {1: 2}, set(), {1}, frozenset(), frozenset({1}), 0.0, 1.0, float("nan"),
    float("inf"), 1j, b"", b"a", bytearray(b"a"), range(3), object(), int, str, tuple, len, is_key, Unhelpful(),
]

GOOD = NUMBERS + TEXTS + TUPLES
NOT_GOOD_ANYWHERE = OTHERS + WRONG_NUMBERS + WRONG_TEXTS + LONG_TUPLES


def tuples_with(thing):
    """Tuples, short and shallow enough, in which the thing stands at each place and each depth."""
    found = []
    for many in range(1, 7):
        for place in range(many):
            row = (1,) * place + (thing,) + ("a",) * (many - place - 1)
            found.append(row)
            found.append((row,))
            found.append((0, row, "b"))
            found.append((((),), (0, row), ()))
    for levels in range(1, 4):
        for place in range(6):
            found.append((1, (2,), "c", (), 5)[:place] + (nested(thing, levels - 1),))
    return found


def all_wrong():
    found = NOT_GOOD_ANYWHERE + DEEP_TUPLES
    for thing in NOT_GOOD_ANYWHERE:
        found = found + tuples_with(thing)
    return found


class TestIsKey(unittest.TestCase):
    def assert_told(self, things, asked):
        for number, thing in enumerate(things):
            # Told by number, for not every wrong thing can be written out.
            self.assertIs(is_key(thing), asked, f"thing {number}")

    def test_numbers(self):
        self.assert_told(NUMBERS, True)

    def test_numbers_at_and_beyond_the_bounds(self):
        self.assert_told(WRONG_NUMBERS, False)

    def test_texts(self):
        self.assert_told(TEXTS, True)

    def test_texts_of_too_many_signs(self):
        self.assert_told(WRONG_TEXTS, False)

    def test_tuples(self):
        self.assert_told(TUPLES, True)

    def test_tuples_of_too_many_parts(self):
        self.assert_told(LONG_TUPLES, False)

    def test_tuples_too_deep(self):
        self.assert_told(DEEP_TUPLES, False)

    def test_depth_of_a_tuple_around_each_kind(self):
        for inner, deepest in ((5, 3), ("a", 3), ((), 2)):
            for levels in range(7):
                self.assertIs(is_key(nested(inner, levels)), levels <= deepest, (inner, levels))

    def test_truths_are_no_numbers(self):
        self.assert_told([True, False, (True,), (False,), (1, True), ((0, False),)], False)

    def test_other_things(self):
        self.assert_told(OTHERS, False)

    def test_keys_in_tuples_at_each_place_and_depth(self):
        for thing in NUMBERS + TEXTS:
            self.assert_told(tuples_with(thing), True)

    def test_wrong_things_in_tuples_at_each_place_and_depth(self):
        for thing in NOT_GOOD_ANYWHERE:
            self.assert_told(tuples_with(thing), False)

    def test_argument_by_its_name(self):
        self.assertIs(is_key(thing=1), True)
        self.assertIs(is_key(thing=None), False)

    def test_a_list_that_holds_itself(self):
        ring = []
        ring.append(ring)
        self.assert_told([ring, (ring,), ((1, ring),)], False)


class TestChecked(unittest.TestCase):
    def test_a_key_is_told_itself(self):
        for key in GOOD:
            self.assertIs(checked(key), key)

    def test_what_is_no_key_is_refused(self):
        for number, thing in enumerate(all_wrong()):
            with self.assertRaises(NoKey, msg=f"thing {number}") as taken:
                checked(thing)
            self.assertIs(taken.exception.__class__, NoKey)

    def test_argument_by_its_name(self):
        self.assertEqual(checked(thing=(1, "a")), (1, "a"))
        with self.assertRaises(NoKey):
            checked(thing=None)


class TestNothingIsChanged(unittest.TestCase):
    def test_lists_and_dicts_stay_as_they_are(self):
        things = [[3, 1, [2]], {"b": [1], "a": 2}, ([3, 1],), (1, ({"b": 1, "a": [2]},)), [(1, 2), [True]]]
        for thing in things:
            kept = copy.deepcopy(thing)
            is_key(thing)
            with self.assertRaises(NoKey):
                checked(thing)
            self.assertEqual(repr(thing), repr(kept))


if __name__ == "__main__":
    unittest.main()
