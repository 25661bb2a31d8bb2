"""Stretches (points 5 to 9)."""

import unittest

from driftmeet.errors import DriftError, NoStretch
from driftmeet.stretches import joined, lies_in, met, moved, stretch, within

MANY = 10 ** 199 + 7
ENDS = [None, -2, -1, 0, 1, 2]
SMALL = [(early, late) for early in ENDS for late in ENDS if early is None or late is None or early <= late]
# Beyond all ends in SMALL by more than any step made here: a side that has no
# end shows itself by the outermost numbers.
WINDOW = range(-12, 13)


def held(one, window=WINDOW):
    """What a stretch holds in the window, by the words of point 5 alone."""
    return [n for n in window if not (one[0] is not None and n < one[0]) and not (one[1] is not None and n > one[1])]


class Case(unittest.TestCase):
    def refused(self, ask, *given):
        with self.assertRaises(DriftError) as told:
            ask(*given)
        self.assertIs(type(told.exception), NoStretch)

    def is_stretch(self, one):
        self.assertIs(type(one), tuple)
        self.assertEqual(len(one), 2)


class Made(Case):
    def test_of_its_ends(self):
        for ends in ((3, 9), (-9, -3), (4, 4), (0, 0), (None, 9), (3, None), (None, None), (-MANY, MANY), (MANY, MANY)):
            with self.subTest(ends):
                self.is_stretch(stretch(*ends))
                self.assertEqual(stretch(*ends), ends)

    def test_early_above_late_is_refused(self):
        for ends in ((4, 3), (0, -1), (-3, -4), (MANY, -MANY), (MANY, MANY - 1)):
            with self.subTest(ends):
                self.refused(stretch, *ends)


class LiesIn(Case):
    def test_at_the_ends_and_beside_them(self):
        for number, truth in ((2, False), (3, True), (4, True), (8, True), (9, True), (10, False)):
            self.assertIs(lies_in(number, (3, 9)), truth)

    def test_one_number_alone(self):
        for number, truth in ((-5, False), (-4, True), (-3, False)):
            self.assertIs(lies_in(number, (-4, -4)), truth)

    def test_no_end(self):
        for number, truth in ((-MANY, True), (9, True), (10, False), (MANY, False)):
            self.assertIs(lies_in(number, (None, 9)), truth)
        for number, truth in ((-MANY, False), (2, False), (3, True), (MANY, True)):
            self.assertIs(lies_in(number, (3, None)), truth)
        for number in (-MANY, 0, MANY):
            self.assertIs(lies_in(number, (None, None)), True)

    def test_nought_is_an_end_like_others(self):
        self.assertIs(lies_in(-1, (0, None)), False)
        self.assertIs(lies_in(1, (None, 0)), False)
        self.assertIs(lies_in(0, (0, 0)), True)

    def test_small_ones_all(self):
        for one in SMALL:
            self.assertEqual([n for n in WINDOW if lies_in(n, one)], held(one))


class Moved(Case):
    def test_as_the_document_tells(self):
        self.assertEqual(moved((3, 9), 2, 5), (5, 14))
        self.assertEqual(moved((None, 9), 2, None), (None, None))

    def test_no_end(self):
        self.assertEqual(moved((3, None), 2, 5), (5, None))
        self.assertEqual(moved((None, 9), 2, 5), (None, 14))
        self.assertEqual(moved((3, 9), 2, None), (5, None))
        self.assertEqual(moved((None, None), 2, 5), (None, None))
        self.assertEqual(moved((None, None), 2, None), (None, None))

    def test_below_nought(self):
        self.assertEqual(moved((3, 9), -4, -1), (-1, 8))
        self.assertEqual(moved((3, 9), -4, 0), (-1, 9))
        self.assertEqual(moved((3, 9), -4, None), (-1, None))

    def test_most_the_same_as_least(self):
        self.assertEqual(moved((3, 9), 2, 2), (5, 11))
        self.assertEqual(moved((3, 9), 0, 0), (3, 9))
        self.assertEqual(moved((3, 9), -2, -2), (1, 7))

    def test_many_figures(self):
        self.assertEqual(moved((-MANY, MANY), -MANY, MANY), (-2 * MANY, 2 * MANY))

    def test_most_below_least_is_refused(self):
        for one in ((3, 9), (None, 9), (3, None), (None, None)):
            for least, most in ((2, 1), (0, -1), (-1, -2), (MANY, 0)):
                with self.subTest(one, least=least, most=most):
                    self.refused(moved, one, least, most)

    def test_small_ones_all(self):
        wide = range(-30, 31)
        for one in SMALL:
            for least in (-2, 0, 1):
                for most in (least, least + 1, least + 3, None):
                    steps = range(least, 61) if most is None else range(least, most + 1)
                    sums = {n + step for n in held(one, wide) for step in steps}
                    with self.subTest(one, least=least, most=most):
                        self.is_stretch(moved(one, least, most))
                        self.assertEqual(held(moved(one, least, most)), sorted(sums & set(WINDOW)))


class Met(Case):
    def test_as_the_document_tells(self):
        self.assertEqual(met((1, 4), (4, None)), (4, 4))
        self.assertEqual(met((4, None), (1, 4)), (4, 4))
        self.assertIsNone(met((1, 4), (5, 9)))
        self.assertIsNone(met((5, 9), (1, 4)))

    def test_no_end(self):
        self.assertEqual(met((None, None), (None, None)), (None, None))
        self.assertEqual(met((None, 4), (None, 6)), (None, 4))
        self.assertEqual(met((1, None), (3, None)), (3, None))
        self.assertEqual(met((None, 4), (2, None)), (2, 4))
        self.assertIsNone(met((None, 4), (5, None)))

    def test_small_ones_all(self):
        for one in SMALL:
            for other in SMALL:
                both = [n for n in held(one) if n in held(other)]
                place = met(one, other)
                with self.subTest(one, other=other):
                    if not both:
                        self.assertIsNone(place)
                    else:
                        self.is_stretch(place)
                        self.assertEqual(held(place), both)
                        self.assertEqual(place[0] is None, both[0] == WINDOW[0])
                        self.assertEqual(place[1] is None, both[-1] == WINDOW[-1])

    def test_many_figures(self):
        self.assertEqual(met((-MANY, MANY), (MANY, None)), (MANY, MANY))
        self.assertIsNone(met((None, MANY), (MANY + 1, None)))


class Joined(Case):
    def test_as_the_document_tells(self):
        self.assertEqual(joined([(1, 2), (5, None)]), (1, None))

    def test_one_alone(self):
        for one in SMALL:
            self.assertEqual(joined([one]), one)

    def test_in_any_order(self):
        self.assertEqual(joined([(5, 7), (-3, -1), (2, 2)]), (-3, 7))
        self.assertEqual(joined([(-3, -1), (2, 2), (5, 7)]), (-3, 7))
        self.assertEqual(joined([(2, 2), (5, 7), (-3, -1)]), (-3, 7))
        self.assertEqual(joined([(0, 9), (3, 4)]), (0, 9))

    def test_no_end(self):
        self.assertEqual(joined([(None, 2), (5, 9)]), (None, 9))
        self.assertEqual(joined([(5, 9), (None, 2)]), (None, 9))
        self.assertEqual(joined([(None, 2), (5, None)]), (None, None))
        self.assertEqual(joined([(0, 0), (None, None)]), (None, None))

    def test_two_small_ones_all(self):
        for one in SMALL:
            for other in SMALL:
                either = held(one) + held(other)
                whole = joined([one, other])
                with self.subTest(one, other=other):
                    self.is_stretch(whole)
                    self.assertEqual(held(whole), [n for n in WINDOW if min(either) <= n <= max(either)])
                    self.assertEqual(whole[0] is None, min(either) == WINDOW[0])
                    self.assertEqual(whole[1] is None, max(either) == WINDOW[-1])

    def test_empty_list_is_refused(self):
        self.refused(joined, [])

    def test_the_list_stays(self):
        given = [(5, None), (1, 2), (None, 0)]
        joined(given)
        self.assertEqual(given, [(5, None), (1, 2), (None, 0)])


class Within(Case):
    def test_within_itself_and_all(self):
        for one in SMALL + [(-MANY, MANY)]:
            self.assertIs(within(one, one), True)
            self.assertIs(within(one, (None, None)), True)

    def test_ends_in_and_out(self):
        self.assertIs(within((3, 9), (2, 10)), True)
        self.assertIs(within((2, 9), (3, 9)), False)
        self.assertIs(within((3, 10), (3, 9)), False)
        self.assertIs(within((4, 10), (3, 9)), False)
        self.assertIs(within((2, 8), (3, 9)), False)
        self.assertIs(within((2, 10), (3, 9)), False)
        self.assertIs(within((20, 30), (3, 9)), False)

    def test_no_end(self):
        self.assertIs(within((3, None), (3, 9)), False)
        self.assertIs(within((None, 9), (3, 9)), False)
        self.assertIs(within((None, None), (3, 9)), False)
        self.assertIs(within((None, None), (None, 9)), False)
        self.assertIs(within((3, 9), (3, None)), True)
        self.assertIs(within((3, 9), (None, 9)), True)
        self.assertIs(within((3, None), (None, 9)), False)

    def test_small_ones_all(self):
        for one in SMALL:
            for other in SMALL:
                with self.subTest(one, other=other):
                    self.assertIs(within(one, other), all(n in held(other) for n in held(one)))


if __name__ == "__main__":
    unittest.main()
