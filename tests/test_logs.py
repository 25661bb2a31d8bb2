"""Logs: names, the check, past, cut and view (points 15, 16, 19 and 20)."""

import copy
import unittest

from helper import MANY, Case, chance, some_log, some_world

from driftmeet.errors import Backward, NoHand, NoHappening, NoLetter, NoName, NoStretch, NoWay
from driftmeet.happenings import NOUGHT
from driftmeet.logs import check, cut, names, past, place, view
from driftmeet.worlds import World

WORLD = World([(1, 2), (2, 2), (1, 1)], [(0, 1, 1, 4), (1, 0, 0, None), (1, 2, 2, 2), (2, 0, 5, 9)])

# Hand 0 writes to hand 1, hand 1 to hand 2, hand 2 to hand 0, with looks between.
ROUND = [
    ("look", 2, 50),          # (2, 0)
    ("look", 0, 10),          # (0, 0)
    ("send", 0, 11, 1),       # (0, 1)
    ("look", 1, -7),          # (1, 0)
    ("look", 0, 12),          # (0, 2)
    ("take", 1, -7, (0, 1)),  # (1, 1)
    ("send", 1, -5, 2),       # (1, 2)
    ("sight", 1, -4, 3, 3),   # (1, 3)
    ("take", 2, 50, (1, 2)),  # (2, 1)
    ("send", 2, 51, 0),       # (2, 2)
    ("look", 2, 52),          # (2, 3)
    ("take", 0, 12, (2, 2)),  # (0, 3)
    ("look", 0, 13),          # (0, 4)
]


def past_by_its_words(world, log, name):
    """The least set of point 19, grown until it grows no more; told by counts."""
    rows = dict(zip(names(log), log))
    reached = {name}
    while True:
        more = {(hand, before) for hand, k in reached for before in range(k)}
        more |= {rows[one][3] for one in reached if rows[one][0] == "take"}
        if more <= reached:
            return [len([one for one in reached if one[0] == hand]) for hand in range(world.hands())]
        reached |= more


class Names(Case):
    def test_in_the_logs_order(self):
        told = [(2, 0), (0, 0), (0, 1), (1, 0), (0, 2), (1, 1), (1, 2), (1, 3), (2, 1), (2, 2), (2, 3), (0, 3), (0, 4)]
        self.assertEqual(names(ROUND), told)
        self.assertIs(type(names(ROUND)), list)
        for name in names(ROUND):
            self.assertIs(type(name), tuple)

    def test_of_none_and_of_one(self):
        self.assertEqual(names([]), [])
        self.assertEqual(names([("look", 1, 0)]), [(1, 0)])

    def test_of_a_log_without_a_send(self):
        self.assertEqual(names([("take", 1, 0, (0, 5)), ("look", 1, 3)]), [(1, 0), (1, 1)])

    def test_place(self):
        for where, name in enumerate(names(ROUND)):
            self.assertEqual(place(ROUND, name), where)

    def test_no_place(self):
        for name in ((0, 5), (1, 4), (2, 4), (0, -1), (2, -1), (3, 0), (-1, 0), (-2, 0), (MANY, 0), (0, MANY)):
            with self.subTest(name):
                self.refused(NoName, place, ROUND, name)
        self.refused(NoName, place, ROUND, NOUGHT)
        self.refused(NoName, place, [], (0, 0))
        self.refused(NoName, place, [], NOUGHT)


class Check(Case):
    def fault(self, kind, *rows):
        log = list(rows)
        kept = copy.deepcopy(log)
        refusal = self.refused(kind, check, WORLD, log)
        self.assertEqual(log, kept)
        return refusal

    def test_without_a_fault(self):
        for log in ([], ROUND, ROUND[:5], [("look", 0, 3), ("look", 0, 3)], [("sight", 2, -MANY, MANY, MANY)]):
            self.assertIsNone(check(WORLD, log))

    def test_letters_may_stay_untaken_or_overtake_one_another(self):
        self.assertIsNone(check(WORLD, [
            ("send", 0, 1, 1), ("send", 0, 1, 1), ("send", 0, 2, 1), ("take", 1, 9, (0, 2)), ("take", 1, 9, (0, 0)),
        ]))

    def test_random_ones_without_a_fault(self):
        for seed in range(60):
            luck = chance(seed)
            world = some_world(luck, luck.randint(1, 6))
            self.assertIsNone(check(world, some_log(luck, world, luck.randint(0, 60))))

    def test_no_row(self):
        self.fault(NoHappening, ("look", 0))
        self.fault(NoHappening, ["look", 0, 1])
        self.fault(NoHappening, None)
        self.fault(NoHappening, ("look", 0, 1), ("look", 0, None))
        self.fault(NoHappening, ("look", 0, 1), ("take", 1, 1, [0, 0]))
        self.fault(NoHappening, ("look", True, 1))

    def test_no_hand(self):
        for hand in (-1, -3, 3, MANY):
            self.fault(NoHand, ("look", hand, 0))
            self.fault(NoHand, ("look", 0, 0), ("sight", hand, 0, 1, 2))

    def test_backward(self):
        self.assertEqual(self.fault(Backward, ("look", 0, 5), ("look", 0, 4)).last, 5)
        self.assertEqual(self.fault(Backward, ("look", 0, 0), ("look", 0, -1)).last, 0)
        self.assertEqual(self.fault(Backward, ("look", 0, -5), ("look", 1, 9), ("look", 0, -6)).last, -5)
        self.assertEqual(self.fault(Backward, ("look", 0, 1), ("look", 0, MANY), ("look", 0, 2)).last, MANY)
        self.assertEqual(self.fault(Backward, ("send", 0, 7, 1), ("take", 1, 3, (0, 0)), ("look", 1, 2)).last, 3)

    def test_other_hands_readings_are_not_looked_at(self):
        self.assertIsNone(check(WORLD, [("look", 0, 100), ("look", 1, 5), ("look", 2, -100), ("look", 1, 5)]))

    def test_sight(self):
        self.fault(NoStretch, ("sight", 0, 0, 4, 3))
        self.fault(NoStretch, ("sight", 0, 0, 3, 3), ("sight", 0, 0, 0, -1))
        self.assertIsNone(check(WORLD, [("sight", 0, 0, 3, 3), ("sight", 0, 0, -5, 9)]))

    def test_send(self):
        self.fault(NoWay, ("send", 0, 0, 2))
        self.fault(NoWay, ("send", 2, 0, 1))
        for to in (-1, -2, 3, MANY):
            self.fault(NoWay, ("send", 1, 0, to))
        for hand in range(3):
            self.fault(NoWay, ("send", hand, 0, hand))
        self.assertIsNone(check(WORLD, [("send", 0, 0, 1), ("send", 1, 0, 0), ("send", 1, 0, 2), ("send", 2, 0, 0)]))

    def test_take_twice(self):
        self.fault(NoLetter, ("send", 0, 0, 1), ("take", 1, 0, (0, 0)), ("take", 1, 0, (0, 0)))
        self.fault(NoLetter, ("send", 0, 0, 1), ("send", 0, 0, 1), ("take", 1, 0, (0, 0)), ("take", 1, 1, (0, 1)),
                   ("look", 1, 1), ("take", 1, 2, (0, 0)))

    def test_take_of_what_was_sent_to_another(self):
        self.fault(NoLetter, ("send", 1, 0, 2), ("take", 0, 0, (1, 0)))
        self.fault(NoLetter, ("send", 0, 0, 1), ("take", 0, 0, (0, 0)))

    def test_take_of_what_is_sent_behind_it(self):
        self.fault(NoLetter, ("take", 1, 0, (0, 0)), ("send", 0, 0, 1))
        self.fault(NoLetter, ("send", 0, 0, 1), ("take", 1, 0, (0, 1)), ("send", 0, 0, 1))

    def test_take_of_what_is_no_send(self):
        self.fault(NoLetter, ("look", 0, 0), ("take", 1, 0, (0, 0)))
        self.fault(NoLetter, ("sight", 0, 0, 1, 1), ("take", 1, 0, (0, 0)))
        self.fault(NoLetter, ("send", 0, 0, 1), ("take", 1, 0, (0, 0)), ("take", 0, 0, (1, 0)))
        self.fault(NoLetter, ("send", 1, 0, 0), ("take", 1, 0, (1, 1)))

    def test_take_of_nothing(self):
        for letter in (NOUGHT, (0, 1), (0, -1), (9, 9), (MANY, MANY), (2, 0)):
            self.fault(NoLetter, ("send", 0, 0, 1), ("take", 1, 0, letter))

    def test_two_faults_in_one_row(self):
        self.fault(NoHappening, ("look", 9, None))
        self.fault(NoHand, ("sight", 9, 0, 2, 1))
        self.fault(NoHand, ("send", -1, 0, -1))
        self.fault(NoHand, ("look", 3, 9), ("look", 3, 8))
        self.fault(NoHappening, ("look", 0, 9), ("look", 0, 8, 7))
        self.assertEqual(self.fault(Backward, ("look", 0, 9), ("sight", 0, 8, 2, 1)).last, 9)
        self.assertEqual(self.fault(Backward, ("look", 0, 9), ("send", 0, 8, 0)).last, 9)
        self.assertEqual(self.fault(Backward, ("look", 1, 9), ("take", 1, 8, (0, 0))).last, 9)

    def test_two_faults_in_two_rows(self):
        rows = [
            (NoHappening, ("look", 0)), (NoHand, ("look", 3, 0)), (Backward, ("look", 0, -1)),
            (NoStretch, ("sight", 1, 0, 2, 1)), (NoWay, ("send", 0, 0, 2)), (NoLetter, ("take", 2, 0, (0, 0))),
        ]
        for kind, row in rows:
            for _, other in rows:
                with self.subTest(row=row, other=other):
                    self.fault(kind, ("look", 0, 0), row, other)


class Past(Case):
    def past_is(self, name, counts):
        told = past(WORLD, ROUND, name)
        self.assertEqual(told, counts)
        self.assertIs(type(told), list)

    def test_by_its_own_hand_alone(self):
        self.past_is((2, 0), [0, 0, 1])
        self.past_is((0, 0), [1, 0, 0])
        self.past_is((0, 2), [3, 0, 0])
        self.past_is((1, 0), [0, 1, 0])

    def test_by_letters(self):
        self.past_is((1, 1), [2, 2, 0])
        self.past_is((1, 3), [2, 4, 0])

    def test_through_several_hands(self):
        self.past_is((2, 1), [2, 3, 2])
        self.past_is((2, 3), [2, 3, 4])
        self.past_is((0, 3), [4, 3, 3])
        self.past_is((0, 4), [5, 3, 3])

    def test_an_earlier_letter_taken_later(self):
        log = [("send", 0, 0, 1), ("send", 0, 1, 1), ("take", 1, 0, (0, 1)), ("take", 1, 1, (0, 0))]
        self.assertEqual(past(WORLD, log, (1, 0)), [2, 1, 0])
        self.assertEqual(past(WORLD, log, (1, 1)), [2, 2, 0])

    def test_a_number_for_each_hand_of_the_world(self):
        self.assertEqual(past(World([(1, 1)] * 6, []), [("look", 1, 0)], (1, 0)), [0, 1, 0, 0, 0, 0])
        self.assertEqual(past(World([(1, 1)], []), [("look", 0, 0)], (0, 0)), [1])

    def test_no_name(self):
        for name in (NOUGHT, (0, 5), (1, 4), (3, 0), (0, -1), (-2, 0)):
            self.refused(NoName, past, WORLD, ROUND, name)
            self.refused(NoName, view, WORLD, ROUND, name)
        self.refused(NoName, past, WORLD, [], (0, 0))
        self.refused(NoName, view, WORLD, [], (0, 0))

    def test_random_ones_by_the_words(self):
        for seed in range(80):
            luck = chance(seed)
            world = some_world(luck, luck.randint(1, 6))
            log = some_log(luck, world, luck.randint(1, 40))
            for name in names(log):
                self.assertEqual(past(world, log, name), past_by_its_words(world, log, name))


class Cut(Case):
    def test_the_first_ones_of_each_hand(self):
        self.assertEqual(cut(ROUND, [1, 2, 1]), [ROUND[0], ROUND[1], ROUND[3], ROUND[5]])
        self.assertEqual(cut(ROUND, [0, 0, 3]), [ROUND[0], ROUND[8], ROUND[9]])
        self.assertEqual(cut(ROUND, [0, 0, 0]), [])
        self.assertEqual(cut([], [4, 4, 4]), [])

    def test_counts_beyond(self):
        self.assertEqual(cut(ROUND, [5, 4, 4]), ROUND)
        self.assertEqual(cut(ROUND, [6, 60, MANY]), ROUND)
        self.assertEqual(cut(ROUND, [0, MANY, 0]), [row for row in ROUND if row[1] == 1])

    def test_a_take_without_its_send(self):
        self.assertEqual(cut(ROUND, [0, 2, 0]), [("look", 1, -7), ("take", 1, -7, (0, 1))])
        self.assertEqual(cut(cut(ROUND, [0, 2, 0]), [0, 1, 0]), [("look", 1, -7)])

    def test_the_asker_has_a_list_of_its_own(self):
        log, counts = list(ROUND), [9, 9, 9]
        told = cut(log, counts)
        told.clear()
        self.assertEqual(log, ROUND)
        self.assertEqual(counts, [9, 9, 9])
        self.assertEqual(cut(log, counts), ROUND)


class View(Case):
    def test_through_several_hands(self):
        told = view(WORLD, ROUND, (2, 1))
        self.assertEqual(told, [ROUND[k] for k in (0, 1, 2, 3, 5, 6, 8)])
        self.assertIs(type(told), list)
        self.assertEqual(view(WORLD, ROUND, (0, 2)), [ROUND[k] for k in (1, 2, 4)])
        self.assertEqual(view(WORLD, ROUND, (0, 4)), [ROUND[k] for k in (0, 1, 2, 3, 4, 5, 6, 8, 9, 11, 12)])

    def test_random_ones_are_without_a_fault_and_keep_names(self):
        for seed in range(80, 130):
            luck = chance(seed)
            world = some_world(luck, luck.randint(1, 6))
            log = some_log(luck, world, luck.randint(1, 40))
            rows = dict(zip(names(log), log))
            for name in names(log):
                told = view(world, log, name)
                self.assertIsNone(check(world, told))
                self.assertEqual(told, [rows[one] for one in names(told)])
                self.assertIn(name, names(told))
                self.assertEqual(told, cut(log, past_by_its_words(world, log, name)))


class HandedIn(Case):
    def test_stays_as_it_was(self):
        log, counts = list(ROUND), [1, 2, 1]
        check(WORLD, log)
        names(log)
        place(log, (0, 3))
        past(WORLD, log, (0, 3))
        cut(log, counts)
        view(WORLD, log, (0, 3))
        self.assertEqual(log, ROUND)
        self.assertEqual(counts, [1, 2, 1])

    def test_what_is_told_is_the_askers_own(self):
        log = list(ROUND)
        for ask in (lambda: names(log), lambda: past(WORLD, log, (0, 3)), lambda: view(WORLD, log, (0, 4))):
            told = ask()
            kept = list(told)
            told.append("more")
            told[0] = "other"
            self.assertEqual(ask(), kept)
        self.assertEqual(log, ROUND)


if __name__ == "__main__":
    unittest.main()
