"""Deeds by the time: stretches at a reading, sure readings, dates (points 50 to 53, and 63 of dates)."""

import itertools
import unittest

from helper import MANY, SIXTY, Case, by_sums, chance, has_history, log_sums, lived_log, some_log, some_world, time_of

from driftmeet.dates import date, first_sure, is_out, last_sure, stretch_at
from driftmeet.errors import Backward, NoDate, NoHand, NoName, Ring
from driftmeet.happenings import NOUGHT
from driftmeet.known import latest, when
from driftmeet.logs import names, view
from driftmeet.stretches import moved
from driftmeet.worlds import World

WORLD = World([(2, 3), (1, 1), (3, 5)], [(0, 1, 5, 8), (1, 0, 2, None), (1, 2, 0, 0)])
LOG = [
    ("sight", 0, 10, 100, 104),  # (0, 0)
    ("send", 0, 12, 1),          # (0, 1)
    ("take", 1, 3, (0, 1)),      # (1, 0)
    ("send", 1, 3, 0),           # (1, 1)
    ("take", 0, 15, (1, 1)),     # (0, 2)
]
# Only an early end: the letter may have been under way as long as it likes.
OPEN = World([(1, 1), (2, 3)], [(0, 1, 4, None)])
LATE = [("sight", 0, 0, 10, 11), ("send", 0, 1, 1), ("take", 1, 0, (0, 1))]
# Only a late end: hand 0 sees true time behind the letter it sent.
BEFORE = World([(2, 3), (1, 1)], [(0, 1, 4, None)])
EARLY = [("send", 0, 5, 1), ("take", 1, 0, (0, 0)), ("sight", 1, 0, 30, 40)]
NONE = [("sight", 0, 0, 0, 5), ("look", 0, 1), ("sight", 0, 1, 9, 10)]


class At(Case):
    def test_by_hand(self):
        begun = LOG[:1]
        self.assertEqual(stretch_at(WORLD, begun, 0, 10), (100, 104))
        self.assertEqual(stretch_at(WORLD, begun, 0, 11), (102, 107))
        self.assertEqual(stretch_at(WORLD, begun, 0, 20), (120, 134))
        self.assertEqual(stretch_at(WORLD, LOG[:3], 1, 3), (109, 118))
        self.assertEqual(stretch_at(WORLD, LOG[:3], 1, 4), (110, 119))
        self.assertIs(type(stretch_at(WORLD, begun, 0, 10)), tuple)

    def test_an_end_that_is_none_stays_none(self):
        self.assertEqual(stretch_at(OPEN, LATE, 1, 0), (15, None))
        self.assertEqual(stretch_at(OPEN, LATE, 1, 7), (29, None))
        self.assertEqual(stretch_at(BEFORE, EARLY, 0, 5), (None, 36))
        self.assertEqual(stretch_at(BEFORE, EARLY, 0, 7), (None, 42))
        self.assertEqual(stretch_at(WORLD, [("look", 0, 3)], 0, 9), (None, None))

    def test_without_a_happening(self):
        for reading in (-MANY, -1, 0, 7, MANY):
            self.assertEqual(stretch_at(WORLD, LOG[:1], 1, reading), (None, None))
            self.assertEqual(stretch_at(WORLD, [], 2, reading), (None, None))

    def test_the_log_handed_in_is_what_is_known(self):
        """What hand 1 learned behind its letter tells of hand 0 too, until the view of hand 0 is handed in."""
        self.assertEqual(stretch_at(BEFORE, EARLY, 0, 5), (None, 36))
        self.assertEqual(stretch_at(BEFORE, view(BEFORE, EARLY, (0, 0)), 0, 5), (None, None))

    def test_far_off(self):
        for far in (SIXTY, MANY):
            self.assertEqual(stretch_at(WORLD, LOG[:1], 0, 10 + far), (100 + 2 * far, 104 + 3 * far))

    def test_random_ones(self):
        for seed in range(60):
            luck = chance(seed)
            world = some_world(luck, luck.randint(1, 4))
            log, _ = lived_log(luck, world, luck.randint(1, 15))
            hand = luck.randrange(world.hands())
            own = [(name, row[2]) for name, row in zip(names(log), log) if name[0] == hand]
            ticks = luck.choice([0, 0, 1, 5, 9])
            reading = own[-1][1] + ticks if own else ticks
            look = log + [("look", hand, reading)]
            told = stretch_at(world, log, hand, reading)
            self.assertEqual(told, by_sums(log_sums(world, look), NOUGHT, names(look)[-1]))
            if own:
                short, long = world.clock(hand)
                self.assertEqual(told, moved(when(world, log, own[-1][0]), short * ticks, long * ticks))


class Sure(Case):
    def test_first_at_the_edge_and_a_tick_beside_it(self):
        begun = LOG[:1]
        for time, reading in ((-MANY, 10), (0, 10), (99, 10), (100, 10), (101, 11), (102, 11), (103, 12), (104, 12),
                              (105, 13), (100 + 2 * SIXTY, 10 + SIXTY), (101 + 2 * SIXTY, 11 + SIXTY)):
            with self.subTest(time):
                self.assertEqual(first_sure(WORLD, begun, 0, time), reading)
        self.assertEqual(first_sure(WORLD, begun, 0, 2 * MANY), 10 + MANY - 50)

    def test_last_at_the_edge_and_a_tick_beside_it(self):
        begun = LOG[:1]
        for time, reading in ((104, 10), (105, 10), (106, 10), (107, 11), (109, 11), (110, 12),
                              (104 + 3 * SIXTY, 10 + SIXTY), (103 + 3 * SIXTY, 9 + SIXTY)):
            with self.subTest(time):
                self.assertEqual(last_sure(WORLD, begun, 0, time), reading)
        for time in (103, 100, 0, -MANY):
            self.assertIsNone(last_sure(WORLD, begun, 0, time))

    def test_below_nought(self):
        log = [("sight", 0, -20, -9, -8)]
        self.assertEqual(first_sure(WORLD, log, 0, -9), -20)
        self.assertEqual(first_sure(WORLD, log, 0, -8), -19)
        self.assertEqual(first_sure(WORLD, log, 0, 0), -15)
        self.assertEqual(last_sure(WORLD, log, 0, -8), -20)
        self.assertEqual(last_sure(WORLD, log, 0, 0), -18)
        self.assertIsNone(last_sure(WORLD, log, 0, -9))

    def test_none_where_an_end_or_a_happening_is_missing(self):
        for time in (-MANY, -3, 0, 30, MANY):
            for ask in (first_sure, last_sure):
                self.assertIsNone(ask(WORLD, LOG, 2, time))
                self.assertIsNone(ask(WORLD, [], 0, time))
                self.assertIsNone(ask(WORLD, [("look", 0, 3)], 0, time))
            self.assertIsNone(last_sure(OPEN, LATE, 1, time))
            self.assertIsNone(first_sure(BEFORE, EARLY, 0, time))
        self.assertEqual(first_sure(OPEN, LATE, 1, 20), 3)
        self.assertEqual(last_sure(BEFORE, EARLY, 0, 41), 6)

    def test_random_ones_by_trying_readings(self):
        found = {}
        for seed in range(60):
            luck = chance(seed)
            world = some_world(luck, luck.randint(1, 3))
            log, times = lived_log(luck, world, luck.randint(1, 10))
            hand, time = luck.randrange(world.hands()), times[-1] + luck.randint(-15, 40)
            own = [row[2] for row in log if row[1] == hand]
            start = own[-1] if own else 0
            tells = {k: stretch_at(world, log, hand, k) for k in range(start, start + 70)}
            sure = [k for k, one in tells.items() if own and one[0] is not None and one[0] >= time]
            first = min(sure, default=None)
            sure = [k for k, one in tells.items() if own and one[1] is not None and one[1] <= time]
            last = max(sure, default=None)
            self.assertEqual(first_sure(world, log, hand, time), first)
            self.assertEqual(last_sure(world, log, hand, time), last)
            for name, told in (("first", first), ("last", last)):
                found[(name, told is None, told == start)] = True
        self.assertEqual(len(found), 6)

    def test_what_it_is_for(self):
        """At the first sure reading no history has an earlier time; a tick sooner there is one."""
        for time in (121, 122, 133):
            reading = first_sure(WORLD, LOG, 0, time)
            look = LOG + [("look", 0, reading)]
            self.assertGreaterEqual(time_of(look, latest(WORLD, look, (0, 3), NOUGHT), (0, 3)), time)
            look = LOG + [("look", 0, reading - 1)]
            self.assertLess(time_of(look, latest(WORLD, look, (0, 3), NOUGHT), (0, 3)), time)


class Dates(Case):
    def test_by_hand(self):
        self.assertEqual(date(WORLD, LOG[:3], (0, 0)), 104)
        self.assertEqual(date(WORLD, LOG[:3], (0, 1)), 110)
        self.assertEqual(date(WORLD, LOG[:3], (1, 0)), 118)

    def test_of_the_view_alone(self):
        """In the whole log more is known of (0, 1) than in its view."""
        log = LOG[:3] + [("sight", 1, 3, 100, 111)]
        self.assertEqual(when(WORLD, log, (0, 1)), (104, 106))
        self.assertEqual(date(WORLD, log, (0, 1)), 110)

    def test_no_date(self):
        self.refused(NoDate, date, OPEN, LATE, (1, 0))
        self.refused(NoDate, date, BEFORE, EARLY, (0, 0))
        self.refused(NoDate, date, WORLD, [("look", 0, 0)], (0, 0))
        self.assertEqual(date(OPEN, LATE, (0, 1)), 12)

    def test_out_just_where_early_is_later(self):
        for early, told in ((103, False), (104, False), (105, True), (MANY, True), (-MANY, False)):
            log = LOG[:2] + [("sight", 2, 0, early, MANY)]
            self.assertIs(is_out(WORLD, log, (0, 0), (2, 0)), told)

    def test_out_by_its_own_hand_and_others(self):
        log = LOG[:3] + [("look", 1, 4), ("look", 1, 5), ("look", 0, 15)]
        self.assertIs(is_out(WORLD, log, (0, 0), (1, 0)), True)
        self.assertIs(is_out(WORLD, log, (0, 1), (1, 1)), False)
        self.assertIs(is_out(WORLD, log, (0, 1), (1, 2)), True)
        self.assertIs(is_out(WORLD, log, (0, 0), (0, 2)), True)
        self.assertIs(is_out(WORLD, log, (0, 1), (0, 2)), False)
        self.assertIs(is_out(WORLD, log, (1, 0), (0, 0)), False)

    def test_x_and_y_the_same(self):
        for x in names(LOG[:3]):
            self.assertIs(is_out(WORLD, LOG[:3], x, x), False)
        self.refused(NoDate, is_out, OPEN, LATE, (1, 0), (1, 0))

    def test_not_out_where_no_early_end_is_told(self):
        log = [("sight", 0, 0, -9, -9), ("look", 1, 0), ("look", 0, 1)]
        self.assertIs(is_out(WORLD, log, (0, 0), (1, 0)), False)
        self.assertIs(is_out(WORLD, log, (0, 0), (0, 1)), True)

    def test_the_view_of_y_alone(self):
        """Others know that (2, 0) is late, hand 2 does not."""
        log = [("sight", 0, 0, 0, 0), ("sight", 1, 0, 9, 9), ("send", 1, 0, 2), ("look", 2, 0), ("take", 2, 0, (1, 1))]
        self.assertEqual(when(WORLD, log, (2, 0)), (9, 9))
        self.assertIs(is_out(WORLD, log, (0, 0), (2, 0)), False)
        self.assertIs(is_out(WORLD, log, (0, 0), (2, 1)), True)

    def test_random_ones(self):
        found = {True: 0, False: 0, None: 0}
        for seed in range(25):
            luck = chance(seed)
            world = some_world(luck, luck.randint(1, 3))
            log, _ = lived_log(luck, world, 12)
            ends = {x: by_sums(log_sums(world, view(world, log, x)), NOUGHT, x) for x in names(log)}
            for x, y in itertools.product(luck.sample(names(log), 4), repeat=2):
                day, early = ends[x][1], ends[y][0]
                if day is None:
                    self.refused(NoDate, date, world, log, x)
                    self.refused(NoDate, is_out, world, log, x, y)
                    found[None] += 1
                else:
                    out = early is not None and early > day
                    self.assertEqual(date(world, log, x), day)
                    self.assertIs(is_out(world, log, x, y), out)
                    found[out] += 1
        self.assertGreater(min(found.values()), 10, found)

    def test_what_it_is_for(self):
        """All that comes no sooner than a happening by which a date is out has a later date."""
        seen = 0
        for seed in range(30):
            luck = chance(seed)
            world = some_world(luck, luck.randint(2, 3))
            log, lived = lived_log(luck, world, 12)
            times = dict(zip(names(log), lived))
            dated = [x for x in names(log) if when(world, view(world, log, x), x)[1] is not None]
            days = {x: date(world, log, x) for x in dated}
            for x, y in itertools.product(dated[:4], names(log)[-4:]):
                if is_out(world, log, x, y):
                    for z in [z for z in dated if times[z] >= times[y]]:
                        self.assertGreater(days[z], days[x])
                        seen += 1
        self.assertGreater(seen, 20)


class Refused(Case):
    def test_no_hand_first(self):
        for log in ([], LOG, NONE):
            for hand in (-1, 3, -MANY, MANY):
                self.refused(NoHand, stretch_at, WORLD, log, hand, -99)
                self.refused(NoHand, first_sure, WORLD, log, hand, 0)
                self.refused(NoHand, last_sure, WORLD, log, hand, 0)

    def test_backward_with_its_field(self):
        for log, hand, reading, last in ((LOG, 0, 14, 15), (LOG, 1, 2, 3), (LOG[:1], 0, -MANY, 10), (NONE, 0, 0, 1),
                                         ([("look", 2, MANY)], 2, MANY - 1, MANY), ([("look", 1, 0)], 1, -1, 0)):
            self.assertEqual(self.refused(Backward, stretch_at, WORLD, log, hand, reading).last, last)

    def test_ring_behind_backward_for_each_hand(self):
        for hand, reading in ((0, 1), (0, 9), (1, -5), (2, 0)):
            self.goes_round(WORLD, NONE, self.refused(Ring, stretch_at, WORLD, NONE, hand, reading).ring)
        for hand in range(3):
            for ask in (first_sure, last_sure):
                self.goes_round(WORLD, NONE, self.refused(Ring, ask, WORLD, NONE, hand, 3).ring)

    def test_random_rings_of_the_log_alone(self):
        without = 0
        for seed in range(80):
            luck = chance(seed)
            world = some_world(luck, luck.randint(1, 3))
            log = some_log(luck, world, 12)
            if not has_history(world, log):
                without += 1
                hand = luck.randrange(world.hands())
                last = max([row[2] for row in log if row[1] == hand], default=0)
                for ask in (first_sure, last_sure, stretch_at):
                    self.goes_round(world, log, self.refused(Ring, ask, world, log, hand, last + 3).ring)
        self.assertGreater(without, 10)

    def test_no_name(self):
        for log in (LOG, NONE):
            for x in (NOUGHT, (0, 3), (1, 2), (2, 0), (3, 0), (-2, 0), (0, -1), (MANY, 0)):
                self.refused(NoName, date, WORLD, log, x)
                self.refused(NoName, is_out, WORLD, log, x, (0, 0))
                self.refused(NoName, is_out, WORLD, log, (0, 2), x)
        # A name behind NoDate and behind a ring is asked for first.
        self.refused(NoName, is_out, OPEN, LATE, (1, 0), (1, 9))
        self.refused(NoName, date, WORLD, [], (0, 0))

    def test_ring_of_the_view_of_x(self):
        log = [("sight", 1, 0, 5, 5)] + NONE
        self.goes_round(WORLD, view(WORLD, log, (0, 2)), self.refused(Ring, date, WORLD, log, (0, 2)).ring)
        self.assertEqual(date(WORLD, log, (0, 0)), 5)
        self.assertEqual(date(WORLD, log, (0, 1)), 8)
        self.assertEqual(date(WORLD, log, (1, 0)), 5)

    def test_for_is_out_the_view_of_x_then_no_date_then_the_view_of_y(self):
        ring_one = [("sight", 1, 0, 5, 5), ("sight", 1, 0, 6, 6)]
        log = NONE + ring_one + [("look", 2, 0)]
        self.goes_round(WORLD, NONE, self.refused(Ring, is_out, WORLD, log, (0, 2), (1, 1)).ring)
        self.goes_round(WORLD, ring_one, self.refused(Ring, is_out, WORLD, log, (1, 1), (0, 2)).ring)
        self.refused(NoDate, is_out, WORLD, log, (2, 0), (1, 1))
        self.refused(NoDate, is_out, WORLD, log, (2, 0), (0, 0))
        self.goes_round(WORLD, ring_one, self.refused(Ring, is_out, WORLD, log, (0, 0), (1, 1)).ring)
        self.goes_round(WORLD, ring_one, self.refused(Ring, is_out, WORLD, log, (1, 1), (2, 0)).ring)
        self.assertIs(is_out(WORLD, log, (0, 1), (1, 0)), False)


class HandedIn(Case):
    def test_stays_as_it_was(self):
        log = list(LOG[:3])
        stretch_at(WORLD, log, 0, 99)
        first_sure(WORLD, log, 0, 500)
        last_sure(WORLD, log, 0, 500)
        date(WORLD, log, (1, 0))
        is_out(WORLD, log, (0, 0), (1, 0))
        self.assertEqual(log, LOG[:3])

    def test_the_ring_is_the_askers_own(self):
        self.refused(Ring, first_sure, WORLD, NONE, 0, 3).ring.clear()
        self.goes_round(WORLD, NONE, self.refused(Ring, first_sure, WORLD, NONE, 0, 3).ring)


if __name__ == "__main__":
    unittest.main()
