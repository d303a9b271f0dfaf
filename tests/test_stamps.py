"""Promises [2] and [7]: TURN and the stamp of a key."""

import unittest

from slotbook.stamps import TURN, stamp

BOUND = 10 ** 60

NUMBERS = {
    0: 0, 1: 1, 42: 42, TURN - 1: TURN - 1,
    TURN: 0, TURN + 1: 1, 2 * TURN - 1: TURN - 1, 2 * TURN: 0, 5 * TURN + 77: 77, TURN * TURN: 0,
    -1: TURN - 1, -2: TURN - 2, 1 - TURN: 1, -TURN: 0, -TURN - 1: TURN - 1, -3 * TURN + 5: 5,
}


TOLD = {
    (1, 2): 653760164,
    (0, -1): 1492733727,
    (1, 2, 3, 4, 5, 6): 577616269,
    ("a", "b", "c"): 1132514873,
    (1, "a", (-2, ("b", ()))): 120006774,
    (((-1,) * 6,) * 6,) * 6: 1023028700,
    (BOUND - 1, 1 - BOUND, "~" * 60): 1340085253,
}


def text_by_powers(text):
    """A text's stamp by another way: each sign weighed at once, and one rest at the end."""
    many = len(text)
    weighed = sum(ord(sign) * 31 ** (many - 1 - place) for place, sign in enumerate(text))
    return (7 * 31 ** many + weighed) % TURN


class TestTurn(unittest.TestCase):
    def test_turn(self):
        self.assertEqual(TURN, 2147483647)
        self.assertIs(TURN.__class__, int)


class TestNumbers(unittest.TestCase):
    def test_rest_by_turn(self):
        for key, asked in NUMBERS.items():
            self.assertEqual(stamp(key), asked, key)

    def test_at_both_bounds(self):
        self.assertEqual(stamp(BOUND - 1), 867274668)
        self.assertEqual(stamp(1 - BOUND), TURN - 867274668)


class TestTexts(unittest.TestCase):
    def test_without_signs(self):
        self.assertEqual(stamp(""), 7)

    def test_one_sign(self):
        self.assertEqual(stamp(" "), 31 * 7 + 32)
        self.assertEqual(stamp("a"), 314)
        self.assertEqual(stamp("0"), 265)
        self.assertEqual(stamp("~"), 31 * 7 + 126)

    def test_some_signs_from_the_first_one_on(self):
        self.assertEqual(stamp("ab"), 31 * 314 + 98)
        self.assertEqual(stamp("ba"), 31 * 315 + 97)
        self.assertEqual(stamp("abc"), 31 * (31 * 314 + 98) + 99)

    def test_many_signs_by_powers(self):
        signs = "".join(map(chr, range(32, 127)))
        for many in range(61):
            for text in (" " * many, "~" * many, signs[:many], signs[95 - many:], "none" * (many // 4)):
                self.assertEqual(stamp(text), text_by_powers(text), text)

    def test_a_text_of_figures_is_no_number(self):
        self.assertEqual(stamp("5"), 31 * 7 + 53)
        self.assertNotEqual(stamp("5"), stamp(5))


class TestTuples(unittest.TestCase):
    def test_without_parts(self):
        self.assertEqual(stamp(()), 11)

    def test_one_part(self):
        self.assertEqual(stamp((0,)), 11000033)
        self.assertEqual(stamp((1,)), 11000032)
        self.assertEqual(stamp((5,)), 11000033 ^ 5)
        self.assertEqual(stamp(("",)), 11000033 ^ 7)
        self.assertEqual(stamp(("a",)), 11000033 ^ 314)
        self.assertEqual(stamp(((),)), 11000033 ^ 11)
        self.assertEqual(stamp(((0,),)), 0)

    def test_parts_are_stamped_first(self):
        self.assertEqual(stamp((-1,)), 11000033 ^ (TURN - 1))
        self.assertEqual(stamp((TURN,)), 11000033)
        self.assertEqual(stamp((TURN + 1,)), 11000032)

    def test_some_parts_from_the_first_one_on(self):
        self.assertEqual(stamp((1, 2)), ((1000003 * 11000032) ^ 2) % TURN)
        self.assertEqual(stamp((2, 1)), ((1000003 * 11000035) ^ 1) % TURN)
        self.assertEqual(stamp((1, "a")), ((1000003 * 11000032) ^ 314) % TURN)
        self.assertEqual(stamp((0, ())), ((1000003 * 11000033) ^ 11) % TURN)

    def test_the_exclusive_or_comes_ahead_of_the_rest(self):
        whole = 1000003 * 11000033
        self.assertNotEqual((whole % TURN) ^ (TURN - 1), (whole ^ (TURN - 1)) % TURN)
        self.assertEqual(stamp((0, -1)), (whole ^ (TURN - 1)) % TURN)

    def test_told_numbers(self):
        for key, asked in TOLD.items():
            self.assertEqual(stamp(key), asked, key)


class TestAll(unittest.TestCase):
    def test_each_is_a_whole_number_below_turn(self):
        texts = ["", "a", "~" * 60, " " * 60]
        numbers = list(NUMBERS) + [BOUND - 1, 1 - BOUND]
        rows = [(), (-1,) * 6, ("~" * 60,) * 6, (((-1,) * 6,) * 6,) * 6]
        pairs = [(one, other) for one in numbers + texts for other in numbers + texts]
        for key in numbers + texts + rows + pairs:
            self.assertIs(stamp(key).__class__, int, key)
            self.assertTrue(0 <= stamp(key) < TURN, key)

    def test_unlike_keys_with_like_stamps(self):
        for one, other in (
            (0, TURN), (-1, TURN - 1), ("", 7), ((), 11), ("", TURN + 7), ("a", 314), ("Aa", "BB"),
            ("AaAa", "BBBB"), ((TURN,), (0,)), (("",), (7,)), (((),), (11,)), (("Aa", 1), ("BB", 1)),
            (((0,),), 0), ((5,), 11000033 ^ 5),
        ):
            self.assertNotEqual(one, other)
            self.assertEqual(stamp(one), stamp(other), (one, other))

    def test_asked_twice_it_tells_the_same(self):
        key = (1, "a", (-2, ("b", ())))
        self.assertEqual(stamp(key), stamp((1, "a", (-2, ("b", ())))))
        self.assertEqual(key, (1, "a", (-2, ("b", ()))))

    def test_argument_by_its_name(self):
        self.assertEqual(stamp(key="a"), 314)


if __name__ == "__main__":
    unittest.main()
