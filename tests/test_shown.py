"""The shown clock (points 59 to 62)."""

import itertools
import unittest

from helper import MANY, SIXTY, Case, chance

from driftmeet.errors import Backward, NoClock, NoStretch
from driftmeet.shown import Shown
from driftmeet.stretches import lies_in, moved


def made(reading=0, shown=100):
    """Own clock 3 to 5 grains a tick, at least 1 and at most 9 shown."""
    return Shown((3, 5), 1, 9, reading, shown)


def shows(clock, *readings):
    return [clock.show(reading) for reading in readings]


class Made(Case):
    def test_each_bound_broken(self):
        for clock, crawl, dash in (
            ((0, 5), 0, 9), ((-1, 5), 0, 9), ((3, 2), 1, 9), ((3, 5), -1, 9), ((3, 5), 3, 9), ((3, 5), 4, 9),
            ((3, 5), 1, 5), ((3, 5), 1, 4), ((3, 5), 1, 1), ((0, 0), -1, 1), ((MANY, MANY - 1), 0, MANY + 1),
        ):
            with self.subTest(clock=clock, crawl=crawl, dash=dash):
                self.refused(NoClock, Shown, clock, crawl, dash, 0, 0)

    def test_each_bound_just_kept(self):
        for clock, crawl, dash in (((1, 1), 0, 2), ((3, 5), 2, 6), ((3, 3), 0, 4), ((MANY, MANY), MANY - 1, MANY + 1)):
            self.assertEqual(Shown(clock, crawl, dash, 7, -4).show(7), -4)

    def test_until_something_is_put(self):
        self.assertEqual(shows(made(), 0, 1, 2, 10), [100, 103, 106, 130])
        self.assertEqual(shows(made(-5, -100), -5, -4, 5), [-100, -97, -70])
        self.assertEqual(made(-MANY, 0).show(MANY), 6 * MANY)


class Going(Case):
    def test_below_the_stretch(self):
        clock = made()
        clock.put(0, (120, 130))
        # By 9 a tick until it meets 120 + 3 a tick: at the fourth tick 136 against 132.
        self.assertEqual(shows(clock, 0, 1, 2, 3, 4, 5), [100, 109, 118, 127, 132, 135])

    def test_above_the_stretch(self):
        clock = made()
        clock.put(0, (80, 90))
        # By 1 a tick until it is met by 90 + 5 a tick: at the third tick 103 against 105.
        self.assertEqual(shows(clock, 0, 1, 2, 3, 4), [100, 101, 102, 105, 110])

    def test_in_the_stretch_and_at_its_ends(self):
        for one in ((90, 110), (100, 100), (100, 140), (80, 100)):
            clock = made()
            clock.put(0, one)
            self.assertEqual(shows(clock, 0, 1, 7), [100, 103, 121])

    def test_a_grain_beside_the_ends(self):
        clock = made()
        clock.put(0, (101, 110))
        self.assertEqual(shows(clock, 0, 1, 2), [100, 104, 107])
        clock = made()
        clock.put(0, (90, 99))
        self.assertEqual(shows(clock, 0, 1, 2), [100, 104, 109])

    def test_ends_that_are_none(self):
        by_short = [100, 103, 106]
        for one, told in (((None, None), by_short), ((None, 100), by_short), ((100, None), by_short),
                          ((None, 500), by_short), ((-9, None), by_short),
                          ((None, 99), [100, 104, 109]), ((101, None), [100, 104, 107])):
            clock = made()
            clock.put(0, one)
            self.assertEqual(shows(clock, 0, 1, 2), told)

    def test_a_put_changes_nothing_at_its_own_reading(self):
        for one in ((500, 600), (-600, -500), (None, None), (0, None), (None, 0)):
            clock = made()
            self.assertEqual(clock.show(4), 112)
            clock.put(4, one)
            self.assertEqual(clock.show(4), 112)
            clock.put(4, (112, 112))
            self.assertEqual(clock.show(4), 112)

    def test_put_again_in_the_middle_of_catching_up(self):
        clock = made()
        clock.put(0, (120, 130))
        clock.put(2, (119, 200))
        self.assertEqual(shows(clock, 2, 3, 4), [118, 122, 125])
        clock = made()
        clock.put(0, (120, 130))
        clock.put(2, (50, 110))
        self.assertEqual(shows(clock, 2, 3, 4), [118, 119, 120])
        clock = made()
        clock.put(0, (120, 130))
        clock.put(2, (None, None))
        self.assertEqual(shows(clock, 2, 3), [118, 121])

    def test_put_again_in_the_middle_of_waiting(self):
        clock = made()
        clock.put(0, (10, 20))
        clock.put(5, (30, 104))
        self.assertEqual(shows(clock, 5, 6, 7), [105, 109, 114])
        clock = made()
        clock.put(0, (10, 20))
        clock.put(5, (200, 200))
        self.assertEqual(shows(clock, 5, 6), [105, 114])

    def test_put_ahead_of_any_look(self):
        clock = made()
        clock.put(10, (131, 131))
        self.assertEqual(shows(clock, 10, 11), [130, 134])

    def test_crawl_at_nought_stands_still(self):
        clock = Shown((1, 1), 0, 2, 0, 10)
        clock.put(0, (None, 5))
        self.assertEqual(shows(clock, 0, 1, 4, 5, 6), [10, 10, 10, 10, 11])
        self.assertEqual(clock.right_by(), 5)


class Right(Case):
    def test_by_hand(self):
        for one, reading in (((120, 130), 4), ((80, 90), 3), ((90, 110), 0), ((101, 110), 1), ((90, 99), 1),
                             ((106, 110), 1), ((107, 110), 2), ((None, 96), 1), ((None, 95), 2), ((None, None), 0)):
            clock = made()
            clock.put(0, one)
            self.assertEqual(clock.right_by(), reading)

    def test_ahead_of_all_puts(self):
        for reading in (-MANY, -3, 0, 8):
            clock = made(reading)
            self.assertEqual(clock.right_by(), reading)
            clock.show(reading + 5)
            self.assertEqual(clock.right_by(), reading)

    def test_the_puts_own_reading(self):
        clock = made()
        clock.put(6, (118, 118))
        self.assertEqual(clock.right_by(), 6)
        clock.show(99)
        self.assertEqual(clock.right_by(), 6)

    def test_far_off(self):
        for far in (SIXTY, MANY):
            clock = made()
            clock.put(2, (106 + 6 * far, None))
            self.assertEqual(clock.right_by(), 2 + far)
            self.assertEqual(shows(clock, 1 + far, 2 + far), [106 + 9 * (far - 1), 106 + 9 * far])
            clock = made()
            clock.put(2, (None, 105 - 4 * far))
            self.assertEqual(clock.right_by(), 3 + far)
            self.assertEqual(clock.show(3 + far), 105 - 4 * far + 5 * (1 + far))

    def test_it_is_in_the_stretch_from_there_on_and_not_a_tick_sooner(self):
        for short, long, crawl, dash in ((1, 1, 0, 2), (3, 5, 1, 9), (2, 2, 1, 3), (4, 9, 0, 10)):
            for early, late in itertools.product([None, -30, -1, 0, 1, 2, 7, 30], repeat=2):
                if early is not None and late is not None and early > late:
                    continue
                clock = Shown((short, long), crawl, dash, 5, 0)
                clock.put(5, (early, late))
                within = [lies_in(clock.show(5 + k), moved((early, late), short * k, long * k)) for k in range(40)]
                first = clock.right_by() - 5
                self.assertEqual(within, [False] * first + [True] * (40 - first))

    def test_no_clock_of_such_paces_comes_in_sooner(self):
        for early, late in ((20, 25), (7, 7), (-20, -15), (-1, -1)):
            clock = Shown((2, 3), 1, 5, 0, 0)
            clock.put(0, (early, late))
            for ticks in range(clock.right_by()):
                fastest, slowest = 5 * ticks, 1 * ticks
                self.assertTrue(fastest < early + 2 * ticks or slowest > late + 3 * ticks)


class Steady(Case):
    def test_never_back_and_by_crawl_to_dash(self):
        for seed in range(60):
            luck = chance(seed)
            short = luck.randint(1, 4)
            long = short + luck.randint(0, 3)
            crawl, dash = luck.randint(0, short - 1), long + luck.randint(1, 4)
            clock = Shown((short, long), crawl, dash, 0, luck.randint(-20, 20))
            shown = clock.show(0)
            for reading in range(1, 60):
                if luck.random() < 0.2:
                    early = shown + luck.randint(-40, 40)
                    one = (luck.choice([early, None]), luck.choice([early + luck.randint(0, 20), None]))
                    clock.put(reading - 1, one)
                    self.assertEqual(clock.show(reading - 1), shown)
                after = clock.show(reading)
                self.assertTrue(crawl <= after - shown <= dash)
                shown = after

    def test_what_is_asked_between_changes_nothing(self):
        for one in ((150, 160), (20, 30), (90, 120)):
            asked, quiet = made(), made()
            for clock in (asked, quiet):
                clock.put(3, one)
            for reading in range(3, 30):
                asked.show(reading)
                asked.right_by()
            self.assertEqual(asked.show(30), quiet.show(30))
            self.assertEqual(asked.right_by(), quiet.right_by())


class Told(Case):
    def test_below_the_one_with_which_it_was_made(self):
        for reading in (-MANY, 0, 7, MANY):
            clock = made(reading)
            self.assertEqual(self.refused(Backward, clock.show, reading - 1).last, reading)
            self.assertEqual(self.refused(Backward, clock.put, reading - 1, (0, 0)).last, reading)
            self.assertEqual(clock.show(reading), 100)

    def test_below_the_one_told_last(self):
        clock = made()
        clock.show(5)
        self.assertEqual(self.refused(Backward, clock.show, 4).last, 5)
        self.assertEqual(self.refused(Backward, clock.put, 4, (0, 0)).last, 5)
        clock.put(8, (100, 200))
        self.assertEqual(self.refused(Backward, clock.show, 7).last, 8)
        self.assertEqual(self.refused(Backward, clock.put, -7, (0, 0)).last, 8)
        self.assertEqual(clock.show(8), 124)

    def test_no_stretch_behind_backward(self):
        clock = made()
        clock.show(5)
        self.refused(NoStretch, clock.put, 5, (2, 1))
        self.refused(NoStretch, clock.put, 99, (MANY, -MANY))
        self.assertEqual(self.refused(Backward, clock.put, 4, (2, 1)).last, 5)

    def test_what_is_refused_changes_nothing(self):
        clock = made()
        clock.put(0, (120, 130))
        self.refused(NoStretch, clock.put, 50, (2, 1))
        self.refused(Backward, clock.put, -1, (100, 100))
        self.refused(Backward, clock.show, -1)
        self.assertEqual(clock.right_by(), 4)
        self.assertEqual(shows(clock, 0, 1, 2), [100, 109, 118])

    def test_right_by_tells_no_reading(self):
        clock = made()
        clock.put(0, (120, 130))
        self.assertEqual(clock.right_by(), 4)
        self.assertEqual(shows(clock, 0, 1), [100, 109])
        clock.show(20)
        self.assertEqual(clock.right_by(), 4)
        self.assertEqual(self.refused(Backward, clock.show, 19).last, 20)

    def test_two_clocks_are_two(self):
        one, other = made(), made()
        one.put(5, (500, 500))
        self.assertEqual(shows(other, 0, 6), [100, 118])


if __name__ == "__main__":
    unittest.main()
