"""Promises [2] and [8]: sizes, their room, and the size for so many keys."""

import copy
import unittest

from helper import NO_SIZES, ROOMS, SIZES
from slotbook.sizes import is_size, room, size_for

# The greatest number of keys for which each size is told.
MOST_KEYS = {8: 2, 16: 5, 32: 10, 64: 21, 128: 42, 256: 85, 512: 170, 1024: 341, 2048: 682, 4096: 1365}


class TestIsSize(unittest.TestCase):
    def test_each_size(self):
        for size in SIZES:
            self.assertIs(is_size(size), True, size)

    def test_what_is_no_size(self):
        for number, thing in enumerate(NO_SIZES):
            # Told by number, for not every wrong thing can be written out.
            self.assertIs(is_size(thing), False, f"thing {number}")

    def test_each_number_up_to_beyond_the_greatest(self):
        self.assertEqual([number for number in range(-5000, 20000) if is_size(number)], list(SIZES))

    def test_a_list_is_left_as_it_is(self):
        for thing in ([8], [16, [32]], {8: [16]}):
            kept = copy.deepcopy(thing)
            is_size(thing)
            self.assertEqual(thing, kept)

    def test_argument_by_its_name(self):
        self.assertIs(is_size(thing=8), True)
        self.assertIs(is_size(thing=None), False)


class TestRoom(unittest.TestCase):
    def test_of_each_size(self):
        for size, asked in zip(SIZES, ROOMS, strict=True):
            self.assertEqual(room(size), asked, size)
            self.assertIs(room(size).__class__, int)

    def test_two_thirds_rounded_down(self):
        for size in SIZES:
            self.assertTrue(3 * room(size) <= 2 * size < 3 * (room(size) + 1), size)

    def test_argument_by_its_name(self):
        self.assertEqual(room(size=8), 5)


class TestSizeFor(unittest.TestCase):
    def test_the_least_numbers(self):
        self.assertEqual([size_for(many) for many in range(12)], [8, 8, 8, 16, 16, 16, 32, 32, 32, 32, 32, 64])

    def test_about_a_third_of_each_size(self):
        fewest = 0
        for size, most in MOST_KEYS.items():
            self.assertEqual((size_for(fewest), size_for(most)), (size, size), size)
            fewest = most + 1
            if size < 4096:
                self.assertEqual(size_for(fewest), 2 * size)

    def test_none_and_the_most(self):
        self.assertEqual(size_for(0), 8)
        self.assertEqual(size_for(1365), 4096)

    def test_each_number_has_the_least_size_that_is_at_least_three_times_as_many(self):
        for many in range(1366):
            asked = [size for size in SIZES if size >= 3 * many][0]
            self.assertEqual(size_for(many), asked, many)
            self.assertIs(size_for(many).__class__, int)

    def test_numbers_beyond_are_not_refused(self):
        for many in (-2, -1, 1366, 1367, 2000):
            self.assertIs(size_for(many).__class__, int, many)

    def test_argument_by_its_name(self):
        self.assertEqual(size_for(many=3), 16)


if __name__ == "__main__":
    unittest.main()
