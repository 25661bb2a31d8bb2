"""The meeting: a log told row by row, and what each hand has heard (points 39 to 43)."""

import unittest

from helper import MANY, Case, by_sums, chance, has_history, log_sums, lived_log, some_log, some_world

from driftmeet.errors import Backward, DriftError, NoHand, NoHappening, NoLetter, NoName, NoStretch, NoWay, Ring
from driftmeet.happenings import NOUGHT
from driftmeet.logs import check, names, view
from driftmeet.meeting import Meeting
from driftmeet.stretches import within
from driftmeet.worlds import World

WORLD = World([(1, 2), (2, 2), (1, 1)], [(0, 1, 1, 4), (1, 0, 0, None), (1, 2, 2, 2), (2, 0, 5, 9)])
ROWS = [
    ("sight", 0, 10, 90, 95),  # (0, 0)
    ("send", 0, 11, 1),        # (0, 1)
    ("look", 0, 12),           # (0, 2)
    ("look", 1, -7),           # (1, 0)
    ("take", 1, -6, (0, 1)),   # (1, 1)
    ("send", 1, -5, 2),        # (1, 2)
    ("look", 2, 50),           # (2, 0)
    ("take", 2, 51, (1, 2)),   # (2, 1)
    ("send", 2, 52, 0),        # (2, 2)
]
# Two sights of hand 0 at odds, and a letter that carries them to hand 1.
AT_ODDS = [("sight", 0, 0, 0, 5), ("sight", 0, 1, 9, 10), ("send", 0, 2, 1)]


def met_by(world, rows):
    meeting = Meeting(world)
    for row in rows:
        meeting.tell(row)
    return meeting


def refusal_of(ask, *given):
    try:
        ask(*given)
    except DriftError as refusal:
        return type(refusal)
    return None


class Tell(Case):
    def test_names_and_log(self):
        meeting = Meeting(WORLD)
        self.assertEqual(meeting.log(), [])
        told = [meeting.tell(row) for row in ROWS]
        self.assertEqual(told, [(0, 0), (0, 1), (0, 2), (1, 0), (1, 1), (1, 2), (2, 0), (2, 1), (2, 2)])
        self.assertEqual(told, names(ROWS))
        self.assertEqual(meeting.log(), ROWS)
        for name in told:
            self.assertIs(type(name), tuple)

    def test_what_the_check_would_refuse(self):
        rows = [
            (NoHappening, ("look", 0)), (NoHappening, None), (NoHappening, ["look", 0, 99]),
            (NoHappening, ("look", 0, True)), (NoHand, ("look", 3, 0)), (NoHand, ("look", -1, 0)),
            (NoHand, ("sight", 3, 0, 2, 1)), (NoStretch, ("sight", 0, 12, 1, 0)), (NoWay, ("send", 0, 12, 2)),
            (NoWay, ("send", 0, 12, 0)), (NoWay, ("send", 0, 12, 9)), (NoLetter, ("take", 0, 12, (1, 2))),
            (NoLetter, ("take", 1, -5, (0, 1))), (NoLetter, ("take", 0, 12, NOUGHT)),
            (NoLetter, ("take", 0, 12, (1, 3))),
        ]
        meeting = met_by(WORLD, ROWS)
        for kind, row in rows:
            with self.subTest(row):
                self.refused(kind, meeting.tell, row)
                self.assertEqual(meeting.log(), ROWS)
        self.assertEqual(self.refused(Backward, meeting.tell, ("look", 0, 11)).last, 12)
        self.assertEqual(self.refused(Backward, meeting.tell, ("send", 2, 51, 9)).last, 52)
        self.assertEqual(meeting.log(), ROWS)
        self.assertEqual(meeting.tell(("take", 0, 12, (2, 2))), (0, 3))
        self.assertEqual(meeting.log(), ROWS + [("take", 0, 12, (2, 2))])

    def test_refused_at_the_beginning(self):
        meeting = Meeting(WORLD)
        self.refused(NoHand, meeting.tell, ("look", 6, 0))
        self.refused(NoLetter, meeting.tell, ("take", 0, 0, (1, 0)))
        self.assertEqual(meeting.log(), [])
        self.assertEqual(meeting.tell(("look", 0, -MANY)), (0, 0))

    def test_rows_that_leave_no_history(self):
        meeting = met_by(WORLD, AT_ODDS)
        self.assertEqual(meeting.tell(("look", 0, 3)), (0, 3))
        self.assertEqual(meeting.log(), AT_ODDS + [("look", 0, 3)])

    def test_random_rows_as_the_check_has_it(self):
        refusals = {}
        for seed in range(30):
            luck = chance(seed)
            world = some_world(luck, luck.randint(1, 4))
            log = some_log(luck, world, 20)
            luck.shuffle(log)
            meeting, kept = Meeting(world), []
            for row in log:
                expected = refusal_of(check, world, kept + [row])
                self.assertIs(refusal_of(meeting.tell, row), expected)
                refusals[expected] = refusals.get(expected, 0) + 1
                kept += [] if expected else [row]
                self.assertEqual(meeting.log(), kept)
        self.assertGreater(min(refusals.get(kind, 0) for kind in (None, Backward, NoLetter)), 10)


class Heard(Case):
    def test_of_a_hand_without_a_happening(self):
        meeting = met_by(WORLD, ROWS[:3])
        self.assertEqual(meeting.heard(1), [])
        self.assertEqual(meeting.heard(2), [])
        self.assertEqual(Meeting(WORLD).heard(0), [])

    def test_own_rows_and_what_letters_carry(self):
        meeting = Meeting(WORLD)
        for row in ROWS[:4]:
            meeting.tell(row)
        self.assertEqual(meeting.heard(0), ROWS[:3])
        self.assertEqual(meeting.heard(1), [ROWS[3]])
        for row in ROWS[4:]:
            meeting.tell(row)
        self.assertEqual(meeting.heard(0), ROWS[:3])
        self.assertEqual(meeting.heard(1), ROWS[:2] + ROWS[3:6])
        self.assertEqual(meeting.heard(2), ROWS[:2] + ROWS[3:])
        meeting.tell(("take", 0, 30, (2, 2)))
        self.assertEqual(meeting.heard(0), ROWS + [("take", 0, 30, (2, 2))])
        self.assertEqual(meeting.heard(1), ROWS[:2] + ROWS[3:6])

    def test_not_what_the_sender_came_to_know_later(self):
        meeting = met_by(WORLD, ROWS)
        meeting.tell(("send", 0, 40, 1))
        meeting.tell(("take", 1, 0, (0, 3)))
        self.assertEqual(names(meeting.heard(1)), [(0, 0), (0, 1), (0, 2), (1, 0), (1, 1), (1, 2), (0, 3), (1, 3)])

    def test_random_ones_are_the_view_of_the_last(self):
        for seed in range(30):
            luck = chance(seed)
            world = some_world(luck, luck.randint(1, 5))
            log = some_log(luck, world, 30)
            meeting = met_by(world, log)
            for hand in range(world.hands()):
                own = [name for name in names(log) if name[0] == hand]
                self.assertEqual(meeting.heard(hand), view(world, log, own[-1]) if own else [])


class News(Case):
    def test_of_a_first_letter(self):
        meeting = met_by(WORLD, ROWS[:3])
        self.assertEqual(meeting.news(1, (0, 1)), [(0, 0), (0, 1)])
        meeting.tell(("look", 1, -7))
        self.assertEqual(meeting.news(1, (0, 1)), [(0, 0), (0, 1)])
        self.assertIs(type(meeting.news(1, (0, 1))), list)

    def test_sorted_by_the_hands_and_numbers(self):
        meeting = met_by(WORLD, ROWS)
        self.assertEqual(meeting.news(0, (2, 2)), [(1, 0), (1, 1), (1, 2), (2, 0), (2, 1), (2, 2)])
        later = met_by(WORLD, ROWS[3:4] + [("look", 2, 1), ("send", 1, 0, 2), ("send", 1, 0, 0), ("take", 2, 3, (1, 1)),
                                           ("send", 2, 4, 0)])
        self.assertEqual(later.news(0, (2, 2)), [(1, 0), (1, 1), (2, 0), (2, 1), (2, 2)])
        later.tell(("take", 0, 0, (1, 2)))
        self.assertEqual(later.news(0, (2, 2)), [(2, 0), (2, 1), (2, 2)])

    def test_ten_stands_behind_nine(self):
        meeting = met_by(WORLD, [("look", 0, k) for k in range(11)] + [("send", 0, 11, 1)])
        self.assertEqual(meeting.news(1, (0, 11)), [(0, k) for k in range(12)])

    def test_none_where_nothing_is_new(self):
        meeting = met_by(WORLD, [("send", 0, 0, 1), ("send", 0, 1, 1), ("take", 1, 0, (0, 1))])
        self.assertEqual(meeting.news(1, (0, 0)), [])

    def test_no_letter(self):
        meeting = met_by(WORLD, ROWS)
        for hand, letter in ((0, (0, 0)), (1, (2, 2)), (2, (1, 2)), (1, (0, 1)), (0, NOUGHT), (0, (2, 3)), (0, (9, 9)),
                             (2, (2, 2)), (0, (2, -1)), (0, (0, 3)), (1, (1, 3)), (0, (MANY, -MANY)), (1, (0, 2))):
            with self.subTest(hand=hand, letter=letter):
                self.refused(NoLetter, meeting.news, hand, letter)
        self.refused(NoLetter, Meeting(WORLD).news, 0, (1, 0))

    def test_asking_takes_nothing(self):
        meeting = met_by(WORLD, ROWS)
        for _ in range(2):
            self.assertEqual(len(meeting.news(0, (2, 2))), 6)
            self.assertEqual(meeting.log(), ROWS)
        meeting.tell(("take", 0, 12, (2, 2)))
        self.refused(NoLetter, meeting.news, 0, (2, 2))

    def test_random_ones_against_the_take_itself(self):
        told = 0
        for seed in range(30):
            luck = chance(seed)
            world = some_world(luck, luck.randint(2, 4))
            log = some_log(luck, world, 15)
            meeting = met_by(world, log)
            for hand in range(world.hands()):
                readings = [row[2] for row in log if row[1] == hand] + [-99]
                for letter in names(log) + [NOUGHT, (hand, 99)]:
                    grown = met_by(world, log)
                    row = ("take", hand, max(readings), letter)
                    if refusal_of(grown.tell, row) is NoLetter:
                        self.refused(NoLetter, meeting.news, hand, letter)
                    else:
                        old = names(meeting.heard(hand)) + names(grown.log())[-1:]
                        more = sorted(set(names(grown.heard(hand))) - set(old))
                        self.assertEqual(meeting.news(hand, letter), more)
                        told += 1
        self.assertGreater(told, 20)


class Times(Case):
    def test_when(self):
        meeting = Meeting(WORLD)
        self.assertEqual(meeting.when(0), (None, None))
        for row in ROWS[:3]:
            meeting.tell(row)
        self.assertEqual(meeting.when(0), (92, 99))
        self.assertEqual(meeting.when(1), (None, None))
        meeting.tell(ROWS[3])
        self.assertEqual(meeting.when(1), (None, None))
        meeting.tell(ROWS[4])
        self.assertEqual(meeting.when(1), (92, 101))
        meeting.tell(ROWS[5])
        self.assertEqual(meeting.when(1), (94, 103))

    def test_between(self):
        meeting = met_by(WORLD, ROWS)
        self.assertEqual(meeting.between(1, (0, 0), (1, 1)), (2, 6))
        self.assertEqual(meeting.between(1, (1, 1), (0, 0)), (-6, -2))
        self.assertEqual(meeting.between(2, NOUGHT, (0, 1)), (91, 97))
        self.assertEqual(meeting.between(2, (2, 2), NOUGHT), (-106, -97))
        self.assertEqual(meeting.between(0, (0, 1), (0, 1)), (0, 0))
        self.assertEqual(met_by(WORLD, ROWS[:3]).between(2, NOUGHT, NOUGHT), (0, 0))

    def test_what_it_has_not_heard_changes_nothing(self):
        meeting = met_by(WORLD, ROWS)
        kept = [meeting.when(hand) for hand in range(3)]
        meeting.tell(("sight", 2, 53, 104, 104))
        meeting.tell(("send", 2, 53, 0))
        self.assertEqual([meeting.when(0), meeting.when(1)], kept[:2])
        self.assertEqual(meeting.between(1, (0, 0), (1, 1)), (2, 6))
        meeting.tell(("take", 0, 24, (2, 4)))
        self.assertEqual(meeting.when(1), kept[1])
        self.assertEqual(meeting.when(0), (109, 113))

    def test_no_name(self):
        meeting = met_by(WORLD, ROWS)
        for hand, name in ((0, (1, 0)), (0, (0, 3)), (1, (0, 2)), (1, (2, 0)), (2, (0, 2)), (1, (9, 0)), (0, (-1, 1))):
            self.refused(NoName, meeting.between, hand, name, NOUGHT)
            self.refused(NoName, meeting.between, hand, NOUGHT, name)
            self.refused(NoName, meeting.between, hand, name, name)
        self.refused(NoName, met_by(WORLD, ROWS[:3]).between, 1, (0, 0), NOUGHT)

    def test_ring_behind_no_name(self):
        meeting = met_by(WORLD, AT_ODDS + [("look", 1, 0)])
        self.goes_round(WORLD, AT_ODDS, self.refused(Ring, meeting.when, 0).ring)
        self.goes_round(WORLD, AT_ODDS, self.refused(Ring, meeting.between, 0, NOUGHT, NOUGHT).ring)
        self.refused(NoName, meeting.between, 0, NOUGHT, (1, 0))
        self.refused(NoName, meeting.between, 0, (0, 9), NOUGHT)

    def test_who_has_not_heard_of_a_ring_has_none(self):
        meeting = met_by(WORLD, AT_ODDS + [("look", 1, 0)])
        self.assertEqual(meeting.when(1), (None, None))
        self.assertEqual(meeting.when(2), (None, None))
        self.assertEqual(meeting.between(2, NOUGHT, NOUGHT), (0, 0))
        self.assertEqual(meeting.between(1, (1, 0), (1, 0)), (0, 0))
        meeting.tell(("take", 1, 0, (0, 2)))
        self.goes_round(WORLD, meeting.heard(1), self.refused(Ring, meeting.when, 1).ring)

    def test_random_ones(self):
        for seed in range(25):
            luck = chance(seed)
            world = some_world(luck, luck.randint(1, 4))
            log = some_log(luck, world, 14)
            meeting = met_by(world, log)
            for hand in range(world.hands()):
                heard = meeting.heard(hand)
                own = [name for name in names(heard) if name[0] == hand]
                if not has_history(world, heard):
                    self.goes_round(world, heard, self.refused(Ring, meeting.when, hand).ring)
                    continue
                sums = log_sums(world, heard)
                self.assertEqual(meeting.when(hand), by_sums(sums, NOUGHT, own[-1]) if own else (None, None))
                x, y = luck.choice(names(heard) + [NOUGHT]), luck.choice(names(heard) + [NOUGHT])
                self.assertEqual(meeting.between(hand, x, y), by_sums(sums, x, y))

    def test_told_again_it_lies_within(self):
        for seed in range(12):
            luck = chance(seed)
            world = some_world(luck, luck.randint(2, 4))
            log, _ = lived_log(luck, world, 25)
            meeting, told = Meeting(world), {}
            for row in log:
                meeting.tell(row)
                some = [NOUGHT] + names(meeting.heard(row[1]))
                for x, y in [(luck.choice(some), some[-1])] + [(x, y) for hand, x, y in told if hand == row[1]]:
                    one = meeting.between(row[1], x, y)
                    self.assertTrue(within(one, told.get((row[1], x, y), (None, None))))
                    told[(row[1], x, y)] = one


class NoSuchHand(Case):
    def test_ahead_of_all_else(self):
        for meeting in (Meeting(WORLD), met_by(WORLD, ROWS), met_by(WORLD, AT_ODDS)):
            for hand in (-1, 3, 6, -MANY, MANY):
                self.refused(NoHand, meeting.heard, hand)
                self.refused(NoHand, meeting.when, hand)
                self.refused(NoHand, meeting.news, hand, (9, 9))
                self.refused(NoHand, meeting.news, hand, (0, 1))
                self.refused(NoHand, meeting.between, hand, NOUGHT, NOUGHT)
                self.refused(NoHand, meeting.between, hand, (9, 9), (9, 9))


class HandedIn(Case):
    def test_what_is_told_is_the_askers_own(self):
        meeting = met_by(WORLD, ROWS)
        asks = [meeting.log, lambda: meeting.heard(2), lambda: meeting.news(0, (2, 2))]
        for ask in asks:
            told = ask()
            kept = list(told)
            told.clear()
            self.assertEqual(ask(), kept)
            held = ask()
            held.append(("look", 0, 99))
        self.assertEqual(meeting.log(), ROWS)

    def test_what_was_told_ahead_does_not_grow(self):
        meeting = met_by(WORLD, ROWS)
        log, heard = meeting.log(), meeting.heard(0)
        meeting.tell(("look", 0, 99))
        self.assertEqual(log, ROWS)
        self.assertEqual(heard, ROWS[:3])

    def test_two_meetings_of_one_world_are_two(self):
        one, other = Meeting(WORLD), Meeting(WORLD)
        one.tell(ROWS[0])
        self.assertEqual(other.log(), [])
        self.assertEqual(other.tell(("look", 0, 3)), (0, 0))
        self.assertEqual(one.log(), ROWS[:1])


if __name__ == "__main__":
    unittest.main()
