"""What is known of a log (points 33 to 38)."""

import itertools
import unittest

from helper import (
    MANY, SIXTY, Case, by_sums, chance, has_history, lived_log, log_sums, small_logs, some_log, some_world, time_of,
)

from driftmeet.bounds import bounds
from driftmeet.errors import NoName, Ring
from driftmeet.happenings import NOUGHT
from driftmeet.histories import net_of
from driftmeet.known import between, latest, road, spread, surely, when
from driftmeet.logs import names
from driftmeet.worlds import World

WORLD = World([(2, 3), (1, 1)], [(0, 1, 5, 8), (1, 0, 2, None)])
LOG = [
    ("sight", 0, 10, 100, 104),  # (0, 0)
    ("look", 1, -4),             # (1, 0)
    ("send", 0, 12, 1),          # (0, 1)
    ("take", 1, 3, (0, 1)),      # (1, 1)
    ("send", 1, 3, 0),           # (1, 2)
    ("take", 0, 19, (1, 2)),     # (0, 2)
]
# The same without its sight, and one that no bound joins to hand 0's.
BLIND = [("look", 0, 10)] + LOG[1:]
APART = [("sight", 0, 10, 100, 104), ("look", 0, 11), ("look", 1, 0), ("look", 1, 5)]
NONE = [("sight", 0, 0, 0, 5), ("look", 1, 0), ("sight", 0, 1, 9, 10)]
STRANGERS = [(0, 3), (1, 3), (2, 0), (0, -1), (-1, 1), (-2, 0), (MANY, 0), (0, MANY)]


def lived(seed, most_hands=4, lengths=(1, 4, 12, 20)):
    luck = chance(seed)
    world = some_world(luck, luck.randint(1, most_hands))
    log, times = lived_log(luck, world, luck.choice(lengths))
    return luck, world, log, times


class Between(Case):
    def test_by_clocks_and_letters(self):
        told = {
            (NOUGHT, (0, 0)): (100, 104), (NOUGHT, (0, 1)): (104, 110), (NOUGHT, (1, 1)): (109, 118),
            (NOUGHT, (1, 0)): (102, 111), (NOUGHT, (0, 2)): (118, 131), ((0, 1), (1, 2)): (5, 8),
            ((1, 0), (0, 1)): (-1, 2), ((1, 1), (1, 2)): (0, 0), ((1, 2), (0, 2)): (6, 16), ((0, 2), (1, 2)): (-16, -6),
        }
        for (x, y), one in told.items():
            with self.subTest(x=x, y=y):
                self.assertEqual(between(WORLD, LOG, x, y), one)

    def test_when_is_from_nought(self):
        self.assertEqual(when(WORLD, LOG, (0, 2)), (118, 131))
        for x in [NOUGHT] + names(LOG):
            self.assertEqual(when(WORLD, LOG, x), between(WORLD, LOG, NOUGHT, x))
            self.assertEqual(when(WORLD, BLIND, x), (0, 0) if x == NOUGHT else (None, None))

    def test_nought_in_either_place(self):
        self.assertEqual(between(WORLD, LOG, (0, 1), NOUGHT), (-110, -104))
        self.assertEqual(between(WORLD, LOG, NOUGHT, NOUGHT), (0, 0))
        self.assertEqual(between(WORLD, [], NOUGHT, NOUGHT), (0, 0))
        self.assertEqual(between(WORLD, BLIND, (0, 0), NOUGHT), (None, None))

    def test_from_a_name_to_itself(self):
        for log in (LOG, BLIND, APART):
            for x in names(log):
                self.assertEqual(between(WORLD, log, x, x), (0, 0))

    def test_without_a_sight(self):
        self.assertEqual(between(WORLD, BLIND, (0, 0), (1, 0)), (2, 7))
        self.assertEqual(between(WORLD, BLIND, NOUGHT, (1, 0)), (None, None))

    def test_no_way_on_one_side(self):
        log = [("send", 1, 0, 0), ("take", 0, 0, (1, 0)), ("look", 0, 2)]
        self.assertEqual(between(WORLD, log, (1, 0), (0, 1)), (2 + 4, None))
        self.assertEqual(between(WORLD, log, (0, 1), (1, 0)), (None, -6))
        self.assertEqual(between(WORLD, [("sight", 1, 0, 7, 8)], (1, 0), NOUGHT), (-8, -7))

    def test_no_way_on_both_sides(self):
        self.assertEqual(between(WORLD, APART, (0, 1), (1, 0)), (None, None))
        self.assertEqual(between(WORLD, APART, NOUGHT, (1, 1)), (None, None))
        self.assertEqual(between(WORLD, APART, (1, 0), (1, 1)), (5, 5))

    def test_a_letter_that_is_not_taken_tells_nothing(self):
        self.assertEqual(between(WORLD, [("send", 0, 0, 1), ("look", 1, 0)], (0, 0), (1, 0)), (None, None))

    def test_many_figures(self):
        for size in (SIXTY, MANY):
            world = World([(size, size + 1), (1, size)], [(0, 1, size, 2 * size)])
            log = [("sight", 0, -size, -size, size), ("send", 0, size, 1), ("take", 1, 0, (0, 1))]
            self.assertEqual(when(world, log, (0, 1)), (-size + size * 2 * size, size + (size + 1) * 2 * size))
            self.assertEqual(between(world, log, (0, 1), (1, 0)), (size, 2 * size))
            self.assertEqual(when(world, log, (1, 0)), (size * 2 * size, size + (size + 1) * 2 * size + 2 * size))

    def test_random_ones_by_least_sums(self):
        for seed in range(40):
            luck, world, log, times = lived(seed)
            sums = log_sums(world, log)
            some = [NOUGHT] + names(log)
            for x, y in itertools.product(luck.sample(some, min(5, len(some))), repeat=2):
                one = between(world, log, x, y)
                self.assertIs(type(one), tuple)
                self.assertEqual(one, by_sums(sums, x, y))

    def test_random_ones_held_and_no_wider(self):
        """The ends are those of histories, and a bound beyond an end leaves none."""
        for seed in range(40, 70):
            luck, world, log, times = lived(seed)
            some = [NOUGHT] + names(log)
            x, y = luck.choice(some), luck.choice(some)
            early, late = between(world, log, x, y)
            passed = time_of(log, times, y) - time_of(log, times, x)
            self.assertTrue((early is None or early <= passed) and (late is None or passed <= late))
            if late is not None and x != y:
                self.refused(Ring, net_of(world, log).put, y, x, -late - 1)
                net_of(world, log).put(y, x, -late)
            if early is not None and x != y:
                self.refused(Ring, net_of(world, log).put, x, y, early - 1)
                net_of(world, log).put(x, y, early)

    def test_small_ones_by_trying_all_times(self):
        for world, log, found in small_logs():
            for x, y in itertools.product([NOUGHT] + names(log) if found else [], repeat=2):
                told = [time_of(log, times, y) - time_of(log, times, x) for times in found]
                self.assertEqual(between(world, log, x, y), (min(told), max(told)))


class Road(Case):
    def road_is_right(self, world, log, x, y):
        told = road(world, log, x, y)
        late = between(world, log, x, y)[1]
        if late is None:
            self.assertIsNone(told)
            return
        self.assertIs(type(told), list)
        self.assertEqual((told[0], told[-1]), (x, y))
        least = {}
        for one, other, m in bounds(world, log):
            least[(one, other)] = min(m, least.get((one, other), m))
        self.assertEqual(sum(least[pair] for pair in zip(told, told[1:])), late)

    def test_by_clocks_and_letters(self):
        self.assertEqual(road(WORLD, LOG, NOUGHT, (1, 0)), [NOUGHT, (0, 0), (0, 1), (1, 1), (1, 0)])
        self.assertEqual(road(WORLD, LOG, (0, 2), NOUGHT), [(0, 2), (0, 1), (0, 0), NOUGHT])
        for x, y in itertools.product([NOUGHT] + names(LOG), repeat=2):
            self.road_is_right(WORLD, LOG, x, y)

    def test_none(self):
        self.assertIsNone(road(WORLD, BLIND, NOUGHT, (0, 0)))
        self.assertIsNone(road(WORLD, BLIND, (0, 0), NOUGHT))
        self.assertIsNone(road(WORLD, APART, (0, 0), (1, 0)))
        self.assertIsNone(road(WORLD, [("send", 1, 0, 0), ("take", 0, 0, (1, 0))], (1, 0), (0, 0)))

    def test_from_a_name_to_itself(self):
        for log in (LOG, APART):
            for x in [NOUGHT] + names(log):
                self.assertEqual(road(WORLD, log, x, x), [x])
        self.assertEqual(road(WORLD, [], NOUGHT, NOUGHT), [NOUGHT])

    def test_random_ones(self):
        for seed in range(70, 110):
            luck, world, log, times = lived(seed)
            some = [NOUGHT] + names(log)
            for _ in range(6):
                self.road_is_right(world, log, luck.choice(some), luck.choice(some))


class Latest(Case):
    def latest_is_right(self, world, log, x, y, *far):
        times = latest(world, log, x, y, *far)
        self.is_history(world, log, times)
        passed = time_of(log, times, y) - time_of(log, times, x)
        late = between(world, log, x, y)[1]
        if late is None:
            self.assertGreaterEqual(passed, far[0] if far else 0)
        else:
            self.assertEqual(passed, late)
        return times

    def test_the_late_and_the_early_end(self):
        for x, y in itertools.product([NOUGHT] + names(LOG), repeat=2):
            self.latest_is_right(WORLD, LOG, x, y)
            self.latest_is_right(WORLD, LOG, x, y, MANY)
        times = latest(WORLD, LOG, (0, 2), NOUGHT)
        self.assertEqual(time_of(LOG, times, (0, 2)), 118)
        times = latest(WORLD, LOG, NOUGHT, (0, 2))
        self.assertEqual(time_of(LOG, times, (0, 2)), 131)

    def test_far_told_and_left_out(self):
        for far in (-MANY, -SIXTY, -1, 0, 1, 77, SIXTY, MANY):
            for x, y in itertools.product([NOUGHT] + names(APART), repeat=2):
                self.latest_is_right(WORLD, APART, x, y, far)
            self.latest_is_right(WORLD, BLIND, NOUGHT, (1, 1), far)
            self.latest_is_right(WORLD, BLIND, (1, 1), NOUGHT, far)
        for x, y in itertools.product([NOUGHT] + names(APART), repeat=2):
            self.latest_is_right(WORLD, APART, x, y)

    def test_far_by_its_name(self):
        times = latest(WORLD, APART, (1, 0), (0, 0), far=500)
        self.assertGreaterEqual(times[0] - times[2], 500)
        self.is_history(WORLD, APART, times)

    def test_the_empty_log(self):
        self.assertEqual(latest(WORLD, [], NOUGHT, NOUGHT), [])
        self.assertEqual(latest(WORLD, [], NOUGHT, NOUGHT, 9), [])

    def test_random_ones(self):
        for seed in range(110, 170):
            luck, world, log, times = lived(seed)
            some = [NOUGHT] + names(log)
            for far in (-20, 0, 35):
                self.latest_is_right(world, log, luck.choice(some), luck.choice(some), far)

    def test_none_of_more_than_a_thousand_figures(self):
        world = World([(MANY, 2 * MANY)] * 3, [(0, 1, MANY, None), (1, 2, 0, MANY)])
        log = [("sight", 0, -MANY, MANY, MANY)]
        log += [("send", 0, k * MANY // 30, 1) for k in range(20)]
        log += [("take", 1, (k - 20) * MANY // 30, (0, 1 + k)) for k in range(20)]
        log += [("look", 2, (k - 9) * MANY // 9) for k in range(19)]
        self.assertEqual(len(log), 60)
        for x, y in ((NOUGHT, (0, 20)), ((0, 20), NOUGHT), ((1, 19), (2, 0)), ((2, 18), (0, 0)), ((0, 1), (1, 19))):
            for time in self.latest_is_right(world, log, x, y, MANY):
                self.assertLess(abs(time), 10 ** 1000)


class Surely(Case):
    def test_by_clocks_and_letters(self):
        self.assertIs(surely(WORLD, LOG, (0, 0), (0, 1)), True)
        self.assertIs(surely(WORLD, LOG, (0, 1), (0, 0)), False)
        self.assertIs(surely(WORLD, LOG, (0, 1), (1, 1)), True)
        self.assertIs(surely(WORLD, LOG, NOUGHT, (0, 0)), True)
        self.assertIs(surely(WORLD, LOG, (0, 0), NOUGHT), False)
        self.assertIs(surely(WORLD, LOG, (1, 0), (0, 1)), False)

    def test_perhaps_the_same(self):
        self.assertIs(surely(WORLD, LOG, (1, 1), (1, 2)), False)
        for early, told in ((-1, False), (0, False), (1, True)):
            self.assertIs(surely(WORLD, [("sight", 0, 0, early, 9)], NOUGHT, (0, 0)), told)
            self.assertIs(surely(WORLD, [("sight", 0, 0, -9, -early)], (0, 0), NOUGHT), told)

    def test_to_itself_and_where_nothing_is_known(self):
        for x in [NOUGHT] + names(APART):
            self.assertIs(surely(WORLD, APART, x, x), False)
        self.assertIs(surely(WORLD, APART, (0, 0), (1, 0)), False)
        self.assertIs(surely(WORLD, APART, (1, 0), (0, 0)), False)
        self.assertIs(surely(WORLD, [("send", 1, 0, 0), ("take", 0, 0, (1, 0))], (1, 0), (0, 0)), True)

    def test_random_ones_by_least_sums(self):
        found = {True: 0, False: 0}
        for seed in range(170, 200):
            luck, world, log, times = lived(seed)
            sums = log_sums(world, log)
            some = [NOUGHT] + names(log)
            for x, y in itertools.product(luck.sample(some, min(4, len(some))), repeat=2):
                expected = sums.get((y, x), 0) < 0
                self.assertIs(surely(world, log, x, y), expected)
                found[expected] += 1
        self.assertGreater(min(found.values()), 50)


class Spread(Case):
    def spread_is_right(self, world, log, some):
        told = spread(world, log, some)
        self.assertIs(type(told), tuple)
        most, x, y = told
        self.assertIn(x, some)
        self.assertIn(y, some)
        self.assertEqual(most, between(world, log, x, y)[1])
        sums = log_sums(world, log)
        every = [sums.get(pair) for pair in itertools.product(some, repeat=2)]
        self.assertEqual(most, None if None in every else max(every))

    def test_by_clocks_and_letters(self):
        self.assertEqual(spread(WORLD, LOG, [(0, 1), (1, 1)]), (8, (0, 1), (1, 1)))
        self.assertEqual(spread(WORLD, LOG, [(1, 1), (0, 1)]), (8, (0, 1), (1, 1)))
        self.assertEqual(spread(WORLD, LOG, [(1, 0), (0, 1)]), (2, (1, 0), (0, 1)))
        self.assertEqual(spread(WORLD, LOG, [(0, 1), (0, 2), (1, 1), (0, 0)]), (27, (0, 0), (0, 2)))

    def test_nought_among_them(self):
        self.assertEqual(spread(WORLD, LOG, [(0, 1), NOUGHT]), (110, NOUGHT, (0, 1)))
        self.assertEqual(spread(WORLD, [("sight", 0, 0, -9, -7)], [NOUGHT, (0, 0)]), (9, (0, 0), NOUGHT))

    def test_none_is_greater_than_each_number(self):
        self.assertIsNone(spread(WORLD, APART, [NOUGHT, (0, 0), (1, 0)])[0])
        self.spread_is_right(WORLD, APART, [NOUGHT, (0, 0), (0, 1), (1, 0)])
        log = [("send", 1, 0, 0), ("take", 0, 0, (1, 0))]
        self.assertEqual(spread(WORLD, log, [(1, 0), (0, 0)]), (None, (1, 0), (0, 0)))
        self.assertEqual(spread(WORLD, log, [(0, 0), (1, 0)]), (None, (1, 0), (0, 0)))

    def test_one_alone_and_told_twice(self):
        for x in [NOUGHT] + names(APART):
            self.assertEqual(spread(WORLD, APART, [x]), (0, x, x))
            self.assertEqual(spread(WORLD, APART, [x, x]), (0, x, x))
        self.assertEqual(spread(WORLD, LOG, [(0, 1), (1, 1), (0, 1), (1, 1)]), (8, (0, 1), (1, 1)))
        self.spread_is_right(WORLD, LOG, [(1, 1), (1, 2)])

    def test_random_ones(self):
        for seed in range(200, 240):
            luck, world, log, times = lived(seed)
            some = [NOUGHT] + names(log)
            self.spread_is_right(world, log, [luck.choice(some) for _ in range(luck.randint(1, 6))])


def every_ask(x, y):
    """Each question with x and y in its places."""
    return [(between, x, y), (road, x, y), (latest, x, y), (latest, x, y, 3), (surely, x, y), (spread, [x, y])]


class Refused(Case):
    def test_no_name_in_each_place(self):
        for log in (LOG, NONE, []):
            for stranger in [name for name in STRANGERS if name not in names(log)]:
                for ask, *given in every_ask(stranger, NOUGHT) + every_ask(NOUGHT, stranger) + [(when, stranger)]:
                    with self.subTest(ask=ask, stranger=stranger):
                        self.refused(NoName, ask, WORLD, log, *given)
                self.refused(NoName, spread, WORLD, log, [NOUGHT, NOUGHT, stranger, NOUGHT])
                self.refused(NoName, spread, WORLD, log, [stranger])
                self.refused(NoName, between, WORLD, log, stranger, stranger)

    def test_the_spread_of_nothing(self):
        for log in (LOG, NONE, []):
            self.refused(NoName, spread, WORLD, log, [])

    def test_ring(self):
        for x, y in itertools.product([NOUGHT] + names(NONE), repeat=2):
            for ask, *given in every_ask(x, y) + [(when, x)]:
                with self.subTest(ask=ask, x=x, y=y):
                    self.goes_round(WORLD, NONE, self.refused(Ring, ask, WORLD, NONE, *given).ring)
        self.goes_round(WORLD, NONE, self.refused(Ring, spread, WORLD, NONE, [(1, 0)]).ring)

    def test_random_ones(self):
        without = 0
        for seed in range(60):
            luck = chance(seed)
            world = some_world(luck, luck.randint(1, 4))
            log = some_log(luck, world, luck.randint(1, 12))
            x = luck.choice(names(log))
            if has_history(world, log):
                self.assertEqual(when(world, log, x), by_sums(log_sums(world, log), NOUGHT, x))
            else:
                without += 1
                self.goes_round(world, log, self.refused(Ring, when, world, log, x).ring)
        self.assertGreater(without, 10)


class HandedIn(Case):
    def test_stays_as_it_was(self):
        log, some = list(LOG), [(0, 0), NOUGHT, (1, 1)]
        for ask, *given in every_ask((0, 0), (1, 1)) + [(when, (0, 0)), (spread, some)]:
            ask(WORLD, log, *given)
            self.assertEqual(log, LOG)
        self.assertEqual(some, [(0, 0), NOUGHT, (1, 1)])

    def test_what_is_told_is_the_askers_own(self):
        for ask in (road, latest):
            told = ask(WORLD, LOG, (0, 0), (1, 1))
            kept = list(told)
            told.clear()
            self.assertEqual(ask(WORLD, LOG, (0, 0), (1, 1)), kept)
        self.refused(Ring, when, WORLD, NONE, NOUGHT).ring.clear()
        self.goes_round(WORLD, NONE, self.refused(Ring, when, WORLD, NONE, NOUGHT).ring)


if __name__ == "__main__":
    unittest.main()
