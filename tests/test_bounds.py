"""The bounds of a log, and those that times break (points 30 and 31)."""

import unittest

from helper import MANY, Case, chance, lived_log, some_log, some_world

from driftmeet.bounds import bounds, broken
from driftmeet.errors import NoHistory
from driftmeet.happenings import NOUGHT, happening
from driftmeet.logs import names
from driftmeet.worlds import World

WORLD = World([(2, 3), (1, 1), (4, 9)], [(0, 1, 5, 8), (1, 0, 2, None), (2, 0, 0, 0)])

LOG = [
    ("sight", 0, 10, 100, 104),  # (0, 0)
    ("look", 1, -4),             # (1, 0)
    ("send", 0, 12, 1),          # (0, 1)
    ("look", 2, 0),              # (2, 0)
    ("take", 1, 3, (0, 1)),      # (1, 1)
    ("send", 1, 3, 0),           # (1, 2)
    ("sight", 1, 6, -5, 200),    # (1, 3)
    ("take", 0, 19, (1, 2)),     # (0, 2)
]
LOG_BOUNDS = [
    (NOUGHT, (0, 0), 104), ((0, 0), NOUGHT, -100),
    ((0, 0), (0, 1), 6), ((0, 1), (0, 0), -4),
    ((1, 1), (0, 1), -5), ((0, 1), (1, 1), 8), ((1, 0), (1, 1), 7), ((1, 1), (1, 0), -7),
    ((1, 1), (1, 2), 0), ((1, 2), (1, 1), 0),
    (NOUGHT, (1, 3), 200), ((1, 3), NOUGHT, 5), ((1, 2), (1, 3), 3), ((1, 3), (1, 2), -3),
    ((0, 2), (1, 2), -2), ((0, 1), (0, 2), 21), ((0, 2), (0, 1), -14),
]
LOG_TIMES = [102, 105, 107, 0, 112, 112, 115, 121]


def bounds_by_their_words(world, log):
    """Point 30, each happening's last one sought in the log anew."""
    told = []
    for where, name in enumerate(names(log)):
        row = log[where]
        told += happening(row).own_bounds(world, name)
        ahead = [(names(log)[k], log[k][2]) for k in range(where) if log[k][1] == row[1]]
        if ahead:
            last, reading = ahead[-1]
            short, long = world.clock(row[1])
            told += [(last, name, long * (row[2] - reading)), (name, last, -short * (row[2] - reading))]
    return told


def broken_by_their_words(world, log, times):
    time_of = dict(zip(names(log), times))
    time_of[NOUGHT] = 0
    return [(x, y, m) for x, y, m in bounds_by_their_words(world, log) if not time_of[y] - time_of[x] <= m]


class Bounds(Case):
    def test_in_the_order_told(self):
        self.assertEqual(bounds(WORLD, LOG), LOG_BOUNDS)
        self.assertIs(type(bounds(WORLD, LOG)), list)
        for bound in bounds(WORLD, LOG):
            self.assertIs(type(bound), tuple)

    def test_of_none_and_of_one(self):
        self.assertEqual(bounds(WORLD, []), [])
        self.assertEqual(bounds(WORLD, [("look", 2, 7)]), [])
        self.assertEqual(bounds(WORLD, [("send", 0, 7, 1)]), [])
        self.assertEqual(bounds(WORLD, [("sight", 2, 7, 1, 1)]), [(NOUGHT, (2, 0), 1), ((2, 0), NOUGHT, -1)])

    def test_own_ones_go_ahead_of_the_clocks(self):
        log = [("look", 2, 1), ("sight", 2, 3, 40, 50)]
        self.assertEqual(bounds(WORLD, log), [
            (NOUGHT, (2, 1), 50), ((2, 1), NOUGHT, -40), ((2, 0), (2, 1), 18), ((2, 1), (2, 0), -8),
        ])

    def test_other_hands_between(self):
        log = [("look", 0, 1), ("look", 1, 50), ("look", 2, -9), ("look", 1, 51), ("look", 0, 4), ("look", 2, -8)]
        self.assertEqual(bounds(WORLD, log), [
            ((1, 0), (1, 1), 1), ((1, 1), (1, 0), -1),
            ((0, 0), (0, 1), 9), ((0, 1), (0, 0), -6),
            ((2, 0), (2, 1), 9), ((2, 1), (2, 0), -4),
        ])

    def test_from_the_one_just_ahead_alone(self):
        log = [("look", 0, 1), ("look", 0, 2), ("look", 0, 12)]
        self.assertEqual(bounds(WORLD, log), [
            ((0, 0), (0, 1), 3), ((0, 1), (0, 0), -2), ((0, 1), (0, 2), 30), ((0, 2), (0, 1), -20),
        ])

    def test_a_reading_again_after_no_tick(self):
        self.assertEqual(bounds(WORLD, [("look", 2, -7), ("send", 2, -7, 0)]),
                         [((2, 0), (2, 1), 0), ((2, 1), (2, 0), 0)])

    def test_many_figures(self):
        world = World([(MANY, 2 * MANY)], [])
        self.assertEqual(bounds(world, [("look", 0, -MANY), ("look", 0, MANY)]),
                         [((0, 0), (0, 1), 4 * MANY ** 2), ((0, 1), (0, 0), -2 * MANY ** 2)])

    def test_random_ones_by_the_words(self):
        for seed in range(60):
            luck = chance(seed)
            world = some_world(luck, luck.randint(1, 6))
            log = some_log(luck, world, luck.randint(0, 60))
            self.assertEqual(bounds(world, log), bounds_by_their_words(world, log))


class Broken(Case):
    def test_a_history_breaks_none(self):
        self.assertEqual(broken(WORLD, LOG, LOG_TIMES), [])
        self.assertIs(type(broken(WORLD, LOG, LOG_TIMES)), list)

    def test_the_broken_ones_in_their_order(self):
        self.assertEqual(broken(WORLD, LOG, [0] * 8), [
            ((0, 0), NOUGHT, -100), ((0, 1), (0, 0), -4), ((1, 1), (0, 1), -5), ((1, 1), (1, 0), -7),
            ((1, 3), (1, 2), -3), ((0, 2), (1, 2), -2), ((0, 2), (0, 1), -14),
        ])
        self.assertEqual(broken(WORLD, LOG, [105] + LOG_TIMES[1:]), [(NOUGHT, (0, 0), 104), ((0, 1), (0, 0), -4)])
        self.assertEqual(broken(WORLD, LOG, LOG_TIMES[:4] + [113] + LOG_TIMES[5:]),
                         [((1, 0), (1, 1), 7), ((1, 2), (1, 1), 0)])

    def test_just_at_the_bound_and_beyond(self):
        log = [("sight", 0, 0, 10, 12)]
        for time, told in ((9, [((0, 0), NOUGHT, -10)]), (10, []), (12, []), (13, [(NOUGHT, (0, 0), 12)])):
            self.assertEqual(broken(WORLD, log, [time]), told)

    def test_the_number_of_times(self):
        for times in ([], LOG_TIMES[:-1], LOG_TIMES + [0], [0], LOG_TIMES * 2):
            self.refused(NoHistory, broken, WORLD, LOG, times)
        self.refused(NoHistory, broken, WORLD, [], [0])
        self.refused(NoHistory, broken, WORLD, [("look", 0, 0)], [])
        self.refused(NoHistory, broken, WORLD, [("look", 0, 0)], [0, 0])

    def test_the_empty_log(self):
        self.assertEqual(broken(WORLD, [], []), [])

    def test_random_ones_by_the_words(self):
        for seed in range(60):
            luck = chance(seed)
            world = some_world(luck, luck.randint(1, 6))
            log, lived = lived_log(luck, world, luck.randint(0, 40))
            self.assertEqual(broken(world, log, lived), [])
            for _ in range(5):
                times = [time + luck.choice([0, 0, 0, 1, -1, 9]) for time in lived]
                self.assertEqual(broken(world, log, times), broken_by_their_words(world, log, times))


class HandedIn(Case):
    def test_stays_as_it_was(self):
        log, times = list(LOG), list(LOG_TIMES)
        bounds(WORLD, log)
        broken(WORLD, log, times)
        self.assertEqual(log, LOG)
        self.assertEqual(times, LOG_TIMES)

    def test_what_is_told_is_the_askers_own(self):
        bounds(WORLD, LOG).clear()
        self.assertEqual(bounds(WORLD, LOG), LOG_BOUNDS)
        told = broken(WORLD, LOG, [0] * 8)
        kept = list(told)
        told.clear()
        self.assertEqual(broken(WORLD, LOG, [0] * 8), kept)
        broken(WORLD, LOG, LOG_TIMES).append("more")
        self.assertEqual(broken(WORLD, LOG, LOG_TIMES), [])


if __name__ == "__main__":
    unittest.main()
