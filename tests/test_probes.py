"""Promises [2] and [9]: strides, probes, and the count at which a slot is come to."""

import unittest

from helper import SIZES
from slotbook.probes import probe, probes, stride, when
from slotbook.stamps import TURN

STRIDES = {
    0: 1, 1: 1, 7: 1, 11: 1, 30: 1, 31: 1, 32: 1, 33: 1, 63: 1, 64: 3, 65: 3, 95: 3, 96: 3, 127: 3, 128: 5, 159: 5,
    160: 5, 191: 5, 192: 7, 314: 9, 320: 11, 1000: 31, 1023: 31, 1024: 33, 11000033: 343751,
    TURN - 1: 67108863, TURN - 31: 67108863, TURN - 32: 67108863, TURN - 63: 67108863, TURN - 64: 67108861,
}

PROBES = {
    (0, 8): [0, 1, 2, 3, 4, 5, 6, 7],
    (5, 8): [5, 6, 7, 0, 1, 2, 3, 4],
    (31, 8): [7, 0, 1, 2, 3, 4, 5, 6],
    (32, 8): [0, 1, 2, 3, 4, 5, 6, 7],
    (64, 8): [0, 3, 6, 1, 4, 7, 2, 5],
    (129, 8): [1, 6, 3, 0, 5, 2, 7, 4],
    (314, 8): [2, 3, 4, 5, 6, 7, 0, 1],
    (314, 16): [10, 3, 12, 5, 14, 7, 0, 9, 2, 11, 4, 13, 6, 15, 8, 1],
    (TURN - 1, 8): [6, 5, 4, 3, 2, 1, 0, 7],
    (TURN - 1, 16): [14, 13, 12, 11, 10, 9, 8, 7, 6, 5, 4, 3, 2, 1, 0, 15],
}

STAMPS = list(range(0, 70)) + [95, 96, 127, 128, 314, 1023, 4095, 4096, 4097, 131071, 131072, 123456789, TURN - 64,
                               TURN - 2, TURN - 1]


class TestStride(unittest.TestCase):
    def test_told_strides(self):
        for stamp, asked in STRIDES.items():
            self.assertEqual(stride(stamp), asked, stamp)
            self.assertIs(stride(stamp).__class__, int)

    def test_stamps_below_32(self):
        self.assertEqual([stride(stamp) for stamp in range(32)], [1] * 32)

    def test_the_whole_part_and_one_more_where_that_is_even(self):
        for stamp in list(range(5000)) + list(range(TURN - 5000, TURN)):
            whole = stamp // 32
            self.assertEqual(stride(stamp), whole + 1 if whole % 2 == 0 else whole, stamp)

    def test_argument_by_its_name(self):
        self.assertEqual(stride(stamp=64), 3)


class TestProbe(unittest.TestCase):
    def test_told_probes(self):
        for (stamp, size), asked in PROBES.items():
            self.assertEqual([probe(stamp, size, count) for count in range(size)], asked, (stamp, size))

    def test_the_first_is_the_rest_of_the_stamp(self):
        for stamp in STAMPS:
            for size in SIZES:
                self.assertEqual(probe(stamp, size, 0), stamp % size, (stamp, size))

    def test_the_last_lies_a_stride_ahead_of_the_first(self):
        for stamp in STAMPS:
            for size in SIZES:
                self.assertEqual((probe(stamp, size, size - 1) + stride(stamp)) % size, stamp % size, (stamp, size))

    def test_each_is_a_whole_number_below_the_size(self):
        for stamp in STAMPS:
            for count in range(64):
                slot = probe(stamp, 64, count)
                self.assertIs(slot.__class__, int)
                self.assertTrue(0 <= slot < 64)

    def test_arguments_by_their_names(self):
        self.assertEqual(probe(stamp=64, size=8, count=2), 6)


class TestProbes(unittest.TestCase):
    def test_told_probes(self):
        for (stamp, size), asked in PROBES.items():
            self.assertEqual(probes(stamp, size), asked, (stamp, size))

    def test_by_steps_of_the_stride(self):
        for stamp in STAMPS:
            for size in SIZES[:6]:
                slot = stamp % size
                asked = []
                for step in range(size):
                    asked.append(slot)
                    slot = (slot + stride(stamp)) % size
                self.assertEqual(probes(stamp, size), asked, (stamp, size))

    def test_each_slot_stands_just_once(self):
        for stamp in STAMPS:
            for size in SIZES:
                self.assertEqual(sorted(probes(stamp, size)), list(range(size)), (stamp, size))

    def test_the_list_is_the_askers_own(self):
        for stamp, size in PROBES:
            told = probes(stamp, size)
            kept = list(told)
            told.reverse()
            told[0] = "changed"
            told.append(None)
            self.assertEqual(probes(stamp, size), kept)
            self.assertEqual([probe(stamp, size, count) for count in range(size)], kept)
            self.assertEqual([when(stamp, size, slot) for slot in kept], list(range(size)))

    def test_arguments_by_their_names(self):
        self.assertEqual(probes(stamp=64, size=8), [0, 3, 6, 1, 4, 7, 2, 5])


class TestWhen(unittest.TestCase):
    def test_told_counts(self):
        self.assertEqual([when(0, 8, slot) for slot in range(8)], [0, 1, 2, 3, 4, 5, 6, 7])
        self.assertEqual([when(5, 8, slot) for slot in range(8)], [3, 4, 5, 6, 7, 0, 1, 2])
        self.assertEqual([when(64, 8, slot) for slot in range(8)], [0, 3, 6, 1, 4, 7, 2, 5])
        self.assertEqual([when(129, 8, slot) for slot in range(8)], [3, 0, 5, 2, 7, 4, 1, 6])
        self.assertEqual([when(TURN - 1, 8, slot) for slot in range(8)], [6, 5, 4, 3, 2, 1, 0, 7])

    def test_each_count_comes_back(self):
        for stamp in STAMPS:
            for size in SIZES[:4]:
                for count in range(size):
                    self.assertEqual(when(stamp, size, probe(stamp, size, count)), count, (stamp, size, count))

    def test_the_first_and_the_last_slot_and_count_of_each_size(self):
        for stamp in STAMPS:
            for size in SIZES:
                for slot in (0, 1, size - 2, size - 1):
                    self.assertEqual(probe(stamp, size, when(stamp, size, slot)), slot, (stamp, size, slot))
                    self.assertIn(when(stamp, size, slot), range(size))
                for count in (0, 1, size - 2, size - 1):
                    self.assertEqual(when(stamp, size, probe(stamp, size, count)), count, (stamp, size, count))

    def test_each_is_a_whole_number(self):
        self.assertIs(when(314, 8, 3).__class__, int)

    def test_slots_beyond_are_not_refused(self):
        for slot in (-1, 8, 9):
            self.assertIs(when(0, 8, slot).__class__, int, slot)

    def test_arguments_by_their_names(self):
        self.assertEqual(when(stamp=64, size=8, slot=6), 2)


if __name__ == "__main__":
    unittest.main()
