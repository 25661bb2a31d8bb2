"""The net of a log and its histories (points 31 and 32)."""

import unittest

from helper import MANY, Case, chance, has_history, lived_log, small_logs, some_log, some_world

from driftmeet.bounds import bounds, broken
from driftmeet.errors import Ring
from driftmeet.happenings import NOUGHT
from driftmeet.histories import history, net_of
from driftmeet.logs import names
from driftmeet.nets import Net
from driftmeet.worlds import World

WORLD = World([(2, 3), (1, 1)], [(0, 1, 5, 8), (1, 0, 2, None)])
LOG = [
    ("sight", 0, 10, 100, 104), ("look", 1, -4), ("send", 0, 12, 1), ("take", 1, 3, (0, 1)), ("send", 1, 3, 0),
    ("take", 0, 19, (1, 2)),
]
# Hand 1's clock says 1 grain, the way back and forth takes 7 at least.
SOON = [("send", 1, 0, 0), ("take", 0, 0, (1, 0)), ("send", 0, 0, 1), ("take", 1, 1, (0, 1))]


class HistoryCase(Case):
    def net_is_right(self, world, log):
        net = net_of(world, log)
        self.assertIsInstance(net, Net)
        self.assertEqual(sorted(net.names()), sorted([NOUGHT] + names(log)))
        edges = {x: {} for x in net.names()}
        for x, y, m in bounds(world, log):
            edges[x][y] = min(m, edges[x].get(y, m))
        self.assertEqual(net.edges(), edges)

    def history_is_right(self, world, log):
        self.is_history(world, log, history(world, log))

    def ring_is_right(self, world, log):
        for ask in (net_of, history):
            self.goes_round(world, log, self.refused(Ring, ask, world, log).ring)


class With(HistoryCase):
    def test_a_log_with_one(self):
        self.net_is_right(WORLD, LOG)
        self.history_is_right(WORLD, LOG)
        self.assertTrue(100 <= history(WORLD, LOG)[0] <= 104)

    def test_the_empty_log(self):
        self.assertEqual(history(WORLD, []), [])
        self.assertEqual(net_of(WORLD, []).names(), [NOUGHT])
        self.assertEqual(net_of(WORLD, []).edges(), {NOUGHT: {}})

    def test_what_no_bound_joins(self):
        for log in ([("look", 0, 0)], [("look", 0, 0), ("look", 1, 0)], [("send", 0, 0, 1)], [("send", 1, 5, 0)]):
            self.net_is_right(WORLD, log)
            self.history_is_right(WORLD, log)

    def test_a_letter_that_is_not_taken_binds_nothing(self):
        net = net_of(WORLD, [("send", 0, 0, 1), ("look", 1, 0)])
        self.assertEqual(net.edges(), {NOUGHT: {}, (0, 0): {}, (1, 0): {}})

    def test_nought_stands_at_nought(self):
        for early in (-MANY, -7, 0, 7, MANY):
            self.assertEqual(history(WORLD, [("look", 1, 3), ("sight", 1, 5, early, early)]), [early - 2, early])

    def test_just_enough(self):
        log = [("send", 1, 0, 0), ("take", 0, 0, (1, 0)), ("send", 0, 0, 1), ("take", 1, 7, (0, 1))]
        self.history_is_right(WORLD, log)
        self.assertEqual([time - history(WORLD, log)[0] for time in history(WORLD, log)], [0, 2, 2, 7])

    def test_many_figures(self):
        world = World([(MANY, MANY + 1), (1, MANY)], [(0, 1, MANY, None)])
        self.history_is_right(world, [("sight", 0, -MANY, MANY, MANY), ("send", 0, MANY, 1), ("take", 1, 0, (0, 1))])

    def test_lived_ones(self):
        for seed in range(60):
            luck = chance(seed)
            world = some_world(luck, luck.randint(1, 6))
            log, lived = lived_log(luck, world, luck.choice([1, 5, 20, 60]))
            self.assertEqual(broken(world, log, lived), [])
            self.net_is_right(world, log)
            self.history_is_right(world, log)


class Without(HistoryCase):
    def test_letters_faster_than_their_ways(self):
        self.ring_is_right(WORLD, SOON)

    def test_two_sights_at_odds(self):
        self.ring_is_right(WORLD, [("sight", 0, 0, 0, 5), ("sight", 0, 1, 9, 10)])
        self.ring_is_right(WORLD, [("sight", 0, 0, 9, 10), ("sight", 0, 0, 8, 8)])
        self.ring_is_right(WORLD, [("sight", 1, 0, MANY, MANY), ("look", 1, 1), ("sight", 1, 2, MANY, MANY)])

    def test_one_grain_decides(self):
        self.history_is_right(WORLD, [("sight", 0, 0, 0, 5), ("sight", 0, 1, 8, 10)])
        self.ring_is_right(WORLD, [("sight", 0, 0, 0, 5), ("sight", 0, 1, 9, 10)])

    def test_a_letter_slower_or_faster_than_its_way(self):
        begun = [("sight", 0, 0, 0, 0), ("send", 0, 0, 1), ("take", 1, 0, (0, 1))]
        self.ring_is_right(WORLD, begun + [("sight", 1, 0, 9, 9)])
        self.history_is_right(WORLD, begun + [("sight", 1, 0, 8, 8)])
        self.history_is_right(WORLD, begun + [("sight", 1, 0, 5, 5)])
        self.ring_is_right(WORLD, begun + [("sight", 1, 0, 4, 4)])

    def test_a_fault_behind_stays_one(self):
        self.ring_is_right(WORLD, SOON + [("look", 0, 9), ("sight", 1, 99, 3, 4)])

    def test_the_ring_is_the_askers_own(self):
        self.refused(Ring, history, WORLD, SOON).ring.clear()
        self.ring_is_right(WORLD, SOON)


class JustWhere(HistoryCase):
    def decide(self, world, log):
        if has_history(world, log):
            self.net_is_right(world, log)
            self.history_is_right(world, log)
        else:
            self.ring_is_right(world, log)

    def test_random_ones(self):
        found = {True: 0, False: 0}
        for seed in range(150):
            luck = chance(seed)
            world = some_world(luck, luck.randint(1, 4))
            log = some_log(luck, world, luck.randint(1, 12))
            found[has_history(world, log)] += 1
            self.decide(world, log)
        self.assertGreater(min(found.values()), 20)

    def test_lived_ones_with_a_sight_set_off(self):
        found = {True: 0, False: 0}
        for seed in range(80):
            luck = chance(seed)
            world = some_world(luck, luck.randint(1, 4))
            log, lived = lived_log(luck, world, 14)
            off = lived[-1] + luck.choice([-12, -6, -1, 1, 6, 12])
            log.append(("sight",) + log[-1][1:3] + (off, off))
            found[has_history(world, log)] += 1
            self.decide(world, log)
        self.assertGreater(min(found.values()), 10)

    def test_small_ones_by_trying_all_times(self):
        for world, log, found in small_logs():
            self.assertIs(found != [], has_history(world, log))
            self.decide(world, log)


class HandedIn(HistoryCase):
    def test_stays_as_it_was(self):
        for log in (LOG, SOON):
            given = list(log)
            for ask in (net_of, history):
                try:
                    ask(WORLD, given)
                except Ring:
                    pass
            self.assertEqual(given, log)

    def test_what_is_told_is_the_askers_own(self):
        history(WORLD, LOG).clear()
        self.history_is_right(WORLD, LOG)
        net_of(WORLD, LOG).put(NOUGHT, (9, 9), 0)
        self.net_is_right(WORLD, LOG)

    def test_a_log_changed_behind_changes_nothing(self):
        log = list(LOG)
        net, times = net_of(WORLD, log), history(WORLD, log)
        kept = list(times)
        log.clear()
        self.assertEqual(net.edges(), net_of(WORLD, LOG).edges())
        self.assertEqual(times, kept)


if __name__ == "__main__":
    unittest.main()
