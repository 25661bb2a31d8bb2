"""Happenings (points 14, 15 and 18)."""

import unittest

from helper import MANY, Case

from driftmeet.errors import NoHappening
from driftmeet.happenings import NOUGHT, Happening, Look, Send, Sight, Take, happening
from driftmeet.worlds import World

KINDS = [Look, Sight, Send, Take]
FIELDS = {
    Look: ("hand", "reading"),
    Sight: ("hand", "reading", "early", "late"),
    Send: ("hand", "reading", "to"),
    Take: ("hand", "reading", "letter"),
}
ROWS = [
    (Look, ("look", 0, 12)),
    (Look, ("look", -4, -MANY)),
    (Sight, ("sight", 1, -3, 40, 55)),
    (Sight, ("sight", 1, -3, 55, 40)),
    (Sight, ("sight", 9, MANY, -MANY, MANY)),
    (Send, ("send", 0, 12, 1)),
    (Send, ("send", 0, 0, 0)),
    (Send, ("send", 0, 0, -7)),
    (Take, ("take", 1, 7, (0, 3))),
    (Take, ("take", 1, 7, (-1, 0))),
    (Take, ("take", 99, 7, (MANY, -MANY))),
]


class OfRows(Case):
    def test_class_fields_and_row_again(self):
        for kind, row in ROWS:
            with self.subTest(row):
                one = happening(row)
                self.assertIs(type(one), kind)
                self.assertIsInstance(one, Happening)
                self.assertEqual(tuple(getattr(one, field) for field in FIELDS[kind]), row[1:])
                self.assertEqual(one.row(), row)
                self.assertIs(type(one.row()), tuple)

    def test_made_by_its_own_class(self):
        for kind, row in ROWS:
            with self.subTest(row):
                one = kind(*row[1:])
                self.assertEqual(tuple(getattr(one, field) for field in FIELDS[kind]), row[1:])
                self.assertEqual(one.row(), row)

    def test_made_by_the_names_of_its_arguments(self):
        self.assertEqual(Look(hand=1, reading=2).row(), ("look", 1, 2))
        self.assertEqual(Sight(hand=1, reading=2, early=3, late=4).row(), ("sight", 1, 2, 3, 4))
        self.assertEqual(Send(hand=1, reading=2, to=3).row(), ("send", 1, 2, 3))
        self.assertEqual(Take(hand=1, reading=2, letter=(3, 4)).row(), ("take", 1, 2, (3, 4)))

    def test_none_of_the_four_under_another(self):
        for kind in KINDS:
            self.assertTrue(issubclass(kind, Happening))
            for other in KINDS:
                if kind is not other:
                    self.assertFalse(issubclass(kind, other))


class Refused(Case):
    def test_another_length(self):
        for _, row in ROWS:
            with self.subTest(row):
                self.refused(NoHappening, happening, row[:-1])
                self.refused(NoHappening, happening, row + (1,))
                self.refused(NoHappening, happening, row + ((0, 0),))
        self.refused(NoHappening, happening, ())
        for word in ("look", "sight", "send", "take"):
            self.refused(NoHappening, happening, (word,))

    def test_another_word(self):
        for word in ("", "Look", "looks", "look ", "hear", None, 0, True, ["look"], ("look",), {"look": 1}):
            for _, row in ROWS:
                with self.subTest(word=word, row=row):
                    self.refused(NoHappening, happening, (word,) + row[1:])

    def test_one_kinds_word_before_another_ones_parts(self):
        self.refused(NoHappening, happening, ("look", 0, 12, 1))
        self.refused(NoHappening, happening, ("sight", 0, 12, 1))
        self.refused(NoHappening, happening, ("send", 1, 7, (0, 3)))
        self.refused(NoHappening, happening, ("take", 0, 12, 1))

    def test_no_number_in_the_place_of_one(self):
        for bad in (None, True, False, "1", "", 1.0, (1,), (1, 2), [1], {}, b"1"):
            for _, row in ROWS:
                for where in range(1, 3 if row[0] == "take" else len(row)):
                    with self.subTest(bad=bad, row=row, where=where):
                        self.refused(NoHappening, happening, row[:where] + (bad,) + row[where + 1:])

    def test_no_letter(self):
        bad = [None, True, 3, "0.3", (), (0,), (0, 3, 1), [0, 3], (0, None), (None, 3), (0, True), (False, 3),
               ("0", 3), (0, "3"), ((0, 3),), ((0, 3), (0, 3)), (0, 3.0), {0: 3}]
        for letter in bad:
            with self.subTest(letter):
                self.refused(NoHappening, happening, ("take", 1, 7, letter))

    def test_no_tuple(self):
        for row in (None, True, 7, "", "look", "look 0 12", ["look", 0, 12], {"look": 0}, Look(0, 12), [], {}):
            with self.subTest(row=row):
                self.refused(NoHappening, happening, row)


class OwnBounds(Case):
    def setUp(self):
        ways = [(0, 1, 2, 5), (1, 0, 7, None), (2, 1, 0, 0), (1, 2, 3, 3), (0, 2, 0, None), (2, 0, MANY, 2 * MANY)]
        self.world = World([(1, 1), (2, 3), (1, 9)], ways)

    def bounds_are(self, one, name, told):
        again = one.own_bounds(self.world, name)
        self.assertEqual(again, told)
        self.assertIs(type(again), list)
        for bound in again:
            self.assertIs(type(bound), tuple)
        again.append("more")
        self.assertEqual(one.own_bounds(self.world, name), told)

    def test_nought(self):
        self.assertEqual(NOUGHT, (-1, 0))
        self.assertIs(type(NOUGHT), tuple)

    def test_look_and_send_make_none(self):
        self.bounds_are(Look(0, 12), (0, 4), [])
        self.bounds_are(Send(0, 12, 1), (0, 4), [])

    def test_sight(self):
        self.bounds_are(Sight(1, 3, 40, 55), (1, 6), [((-1, 0), (1, 6), 55), ((1, 6), (-1, 0), -40)])
        self.bounds_are(Sight(1, 3, -8, -2), (1, 0), [((-1, 0), (1, 0), -2), ((1, 0), (-1, 0), 8)])
        self.bounds_are(Sight(0, 3, 0, 0), (0, 0), [((-1, 0), (0, 0), 0), ((0, 0), (-1, 0), 0)])
        self.bounds_are(Sight(0, 3, -MANY, MANY), (0, 0), [((-1, 0), (0, 0), MANY), ((0, 0), (-1, 0), MANY)])

    def test_take_by_the_way_from_the_sender(self):
        self.bounds_are(Take(1, 7, (0, 3)), (1, 2), [((1, 2), (0, 3), -2), ((0, 3), (1, 2), 5)])
        self.bounds_are(Take(1, 7, (2, 0)), (1, 2), [((1, 2), (2, 0), 0), ((2, 0), (1, 2), 0)])
        self.bounds_are(Take(2, 7, (1, 8)), (2, 0), [((2, 0), (1, 8), -3), ((1, 8), (2, 0), 3)])
        self.bounds_are(Take(0, 7, (2, 8)), (0, 9), [((0, 9), (2, 8), -MANY), ((2, 8), (0, 9), 2 * MANY)])

    def test_take_without_most(self):
        self.bounds_are(Take(0, 7, (1, 3)), (0, 2), [((0, 2), (1, 3), -7)])
        self.bounds_are(Take(2, 7, (0, 3)), (2, 1), [((2, 1), (0, 3), 0)])

    def test_any_name_of_its_hand(self):
        for k in (0, 1, 59, MANY):
            self.bounds_are(Take(1, 7, (0, 3)), (1, k), [((1, k), (0, 3), -2), ((0, 3), (1, k), 5)])
            self.bounds_are(happening(("sight", 1, 3, 4, 5)), (1, k), [((-1, 0), (1, k), 5), ((1, k), (-1, 0), -4)])

    def test_the_happening_stays(self):
        for kind, row in ROWS[:1] + ROWS[2:3] + ROWS[5:6] + ROWS[8:9]:
            one = kind(*row[1:])
            one.own_bounds(self.world, (row[1], 0))
            self.assertEqual(one.row(), row)


if __name__ == "__main__":
    unittest.main()
