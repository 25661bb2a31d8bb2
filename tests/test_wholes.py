"""Whole numbers (points 3 and 4)."""

import unittest

from driftmeet.errors import DriftError, NoNumber
from driftmeet.wholes import down_over, is_whole, up_over

MANY = 10 ** 199 + 7


class IsWhole(unittest.TestCase):
    def test_whole_numbers(self):
        for thing in (0, 1, 2, -1, -7, MANY, -MANY):
            with self.subTest(thing):
                self.assertIs(is_whole(thing), True)

    def test_truths_are_none(self):
        self.assertIs(is_whole(True), False)
        self.assertIs(is_whole(False), False)

    def test_other_things_are_none(self):
        for thing in ("", "7", "1.0", None, [], [1], (), (1, 2), {}, {1: 2}, 1.0, set(), b"1", int, is_whole, object()):
            with self.subTest(repr(thing)):
                self.assertIs(is_whole(thing), False)


class Over(unittest.TestCase):
    def check(self, top, bottom):
        up = up_over(top, bottom)
        down = down_over(top, bottom)
        with self.subTest(top=top, bottom=bottom):
            self.assertTrue(is_whole(up))
            self.assertTrue(is_whole(down))
            self.assertGreaterEqual(up * bottom, top)
            self.assertLess((up - 1) * bottom, top)
            self.assertLessEqual(down * bottom, top)
            self.assertGreater((down + 1) * bottom, top)

    def test_as_the_document_tells(self):
        self.assertEqual(up_over(-7, 2), -3)
        self.assertEqual(down_over(-7, 2), -4)

    def test_above_nought(self):
        self.assertEqual((up_over(7, 2), down_over(7, 2)), (4, 3))
        self.assertEqual((up_over(6, 2), down_over(6, 2)), (3, 3))
        self.assertEqual((up_over(1, 9), down_over(1, 9)), (1, 0))

    def test_nought_and_below(self):
        self.assertEqual((up_over(0, 5), down_over(0, 5)), (0, 0))
        self.assertEqual((up_over(-1, 9), down_over(-1, 9)), (0, -1))
        self.assertEqual((up_over(-6, 3), down_over(-6, 3)), (-2, -2))

    def test_small_ones_all(self):
        for bottom in range(1, 9):
            for top in range(-30, 31):
                self.check(top, bottom)

    def test_many_figures(self):
        for bottom in (1, 2, 3, MANY, MANY - 1, 10 ** 100):
            for factor in (-MANY, -1, 0, 1, MANY):
                for beside in (-1, 0, 1):
                    self.check(factor * bottom + beside, bottom)

    def test_bottom_of_one(self):
        for top in (-MANY, -1, 0, 1, MANY):
            self.assertEqual((up_over(top, 1), down_over(top, 1)), (top, top))

    def test_bottom_below_one_is_refused(self):
        for over in (up_over, down_over):
            for bottom in (0, -1, -2, -MANY):
                for top in (-4, 0, 4):
                    with self.subTest(over=over, bottom=bottom, top=top):
                        with self.assertRaises(DriftError) as told:
                            over(top, bottom)
                        self.assertIs(type(told.exception), NoNumber)


if __name__ == "__main__":
    unittest.main()
