"""The refusals' classes (point 2, and the interface of errors)."""

import unittest

from driftmeet import errors

NAMES = [
    "NoNumber", "NoStretch", "NoHand", "NoClock", "NoWay", "NoHappening", "Backward", "NoLetter", "NoName",
    "NoHistory", "Ring", "MoreLie", "NoDate", "NoLease", "StillLet", "NoText", "NoRow",
]


class Classes(unittest.TestCase):
    def test_drift_error_is_a_value_error(self):
        self.assertTrue(issubclass(errors.DriftError, ValueError))

    def test_each_stands_under_drift_error(self):
        for name in NAMES:
            with self.subTest(name):
                one = getattr(errors, name)
                self.assertTrue(issubclass(one, errors.DriftError))
                self.assertIsNot(one, errors.DriftError)

    def test_none_stands_under_another(self):
        for name in NAMES:
            for other in NAMES:
                if name != other:
                    with self.subTest(name, other=other):
                        self.assertFalse(issubclass(getattr(errors, name), getattr(errors, other)))

    def test_those_without_fields_take_words(self):
        for name in NAMES:
            if name not in ("Backward", "Ring", "MoreLie", "StillLet"):
                with self.subTest(name):
                    self.assertEqual(str(getattr(errors, name)("words")), "words")


class Fields(unittest.TestCase):
    def test_backward_has_last(self):
        for last in (0, -3, 10 ** 5000):
            self.assertEqual(errors.Backward(last).last, last)

    def test_still_let_has_until(self):
        for until in (0, -3, 10 ** 5000):
            self.assertEqual(errors.StillLet(until).until, until)

    def test_ring_has_ring_of_its_own(self):
        given = [(0, 1), (-1, 0)]
        refusal = errors.Ring(given)
        self.assertEqual(refusal.ring, [(0, 1), (-1, 0)])
        given.append((2, 2))
        self.assertEqual(refusal.ring, [(0, 1), (-1, 0)])
        refusal.ring.clear()
        self.assertEqual(given, [(0, 1), (-1, 0), (2, 2)])

    def test_more_lie_has_rings_of_its_own(self):
        given = [([1], [(0, 0), (0, 1)]), ([2], [(0, 0)])]
        refusal = errors.MoreLie(given)
        self.assertEqual(refusal.rings, [([1], [(0, 0), (0, 1)]), ([2], [(0, 0)])])
        given[0][0].append(5)
        given[1][1].append((3, 3))
        given.pop()
        self.assertEqual(refusal.rings, [([1], [(0, 0), (0, 1)]), ([2], [(0, 0)])])

    def test_words_are_told_whatever_the_fields(self):
        for refusal in (errors.Backward(10 ** 5000), errors.StillLet(10 ** 5000), errors.Ring([]), errors.MoreLie([])):
            self.assertTrue(str(refusal))


if __name__ == "__main__":
    unittest.main()
