"""Worlds (points 10 to 13)."""

import unittest

from helper import MANY, Case

from driftmeet.errors import NoClock, NoHand, NoWay
from driftmeet.worlds import World

GOOD = (1, 1)


class Told(Case):
    def test_how_many_hands(self):
        for number in range(1, 7):
            world = World([GOOD] * number, [])
            self.assertEqual(world.hands(), number)
            self.assertIs(type(world.hands()), int)

    def test_each_clock(self):
        clocks = [(1, 1), (2, 3), (1, MANY), (MANY, MANY), (7, 7), (5, 6)]
        world = World(clocks, [])
        for hand, clock in enumerate(clocks):
            self.assertEqual(world.clock(hand), clock)
            self.assertIs(type(world.clock(hand)), tuple)

    def test_each_way(self):
        world = World([GOOD] * 3, [(0, 1, 2, 5), (1, 0, 0, 0), (2, 0, 7, None), (1, 2, MANY, MANY), (0, 2, 0, None)])
        told = {(0, 1): (2, 5), (1, 0): (0, 0), (2, 0): (7, None), (1, 2): (MANY, MANY), (0, 2): (0, None)}
        for pair, way in told.items():
            self.assertEqual(world.way(*pair), way)
            self.assertIs(type(world.way(*pair)), tuple)

    def test_one_direction_says_nothing_of_the_other(self):
        world = World([GOOD] * 3, [(0, 1, 2, 5), (2, 1, 4, 4), (1, 2, 1, None)])
        self.refused(NoWay, world.way, 1, 0)
        self.assertEqual(world.way(0, 1), (2, 5))
        self.assertEqual(world.way(2, 1), (4, 4))
        self.assertEqual(world.way(1, 2), (1, None))

    def test_all_ways_of_six_hands(self):
        pairs = [(one, other) for one in range(6) for other in range(6) if one != other]
        world = World([GOOD] * 6, [(one, other, one, one + other) for one, other in pairs])
        for one, other in pairs:
            self.assertEqual(world.way(one, other), (one, one + other))


class Making(Case):
    def test_number_of_clocks(self):
        self.refused(NoHand, World, [], [])
        self.refused(NoHand, World, [GOOD] * 7, [])
        self.refused(NoHand, World, [GOOD] * 20, [])

    def test_number_of_clocks_goes_first(self):
        self.refused(NoHand, World, [(0, 0)] * 7, [])
        self.refused(NoHand, World, [GOOD] * 6 + [(2, 1)], [(0, 1, -1, 0)])
        self.refused(NoHand, World, [], [(0, 1, 3, 2)])

    def test_clocks(self):
        for clock in ((0, 0), (0, 5), (-1, 5), (-3, -2), (2, 1), (1, 0), (1, -1), (MANY, MANY - 1), (-MANY, MANY)):
            with self.subTest(clock):
                self.refused(NoClock, World, [clock], [])
                self.refused(NoClock, World, [GOOD, clock], [])
                self.refused(NoClock, World, [GOOD] * 5 + [clock], [])

    def test_clocks_go_ahead_of_ways(self):
        for way in ((0, 9, 1, 1), (0, 0, 1, 1), (0, 1, -1, 1), (0, 1, 2, 1)):
            with self.subTest(way):
                self.refused(NoClock, World, [GOOD, (2, 1)], [way])

    def test_hands_of_ways(self):
        for pair in ((0, 3), (3, 0), (-1, 0), (0, -1), (-3, 0), (1, 1), (5, 5)):
            way = pair + (1, 2)
            with self.subTest(way):
                self.refused(NoHand, World, [GOOD] * 3, [way])
                self.refused(NoHand, World, [GOOD] * 3, [(0, 1, 1, 2), way])
        self.refused(NoHand, World, [GOOD], [(0, 1, 1, 2)])

    def test_lengths_of_ways(self):
        for least, most in ((-1, 3), (-1, None), (-MANY, MANY), (-2, -1), (3, 2), (0, -1), (MANY, MANY - 1)):
            with self.subTest(least=least, most=most):
                self.refused(NoWay, World, [GOOD] * 2, [(0, 1, least, most)])
                self.refused(NoWay, World, [GOOD] * 2, [(0, 1, 1, 1), (1, 0, least, most)])

    def test_way_told_twice(self):
        self.refused(NoWay, World, [GOOD] * 3, [(0, 1, 2, 5), (0, 1, 2, 5)])
        self.refused(NoWay, World, [GOOD] * 3, [(0, 1, 2, 5), (1, 0, 2, 5), (1, 2, 0, 0), (0, 1, 3, None)])

    def test_hands_go_ahead_of_all_else_in_a_way(self):
        self.refused(NoHand, World, [GOOD] * 2, [(0, 2, -1, 5)])
        self.refused(NoHand, World, [GOOD] * 2, [(2, 0, 3, 2)])
        self.refused(NoHand, World, [GOOD] * 2, [(1, 1, -1, -2)])

    def test_way_by_way(self):
        self.refused(NoWay, World, [GOOD] * 2, [(0, 1, -1, 5), (0, 2, 1, 1)])
        self.refused(NoWay, World, [GOOD] * 2, [(0, 1, 5, 4), (1, 1, 1, 1)])
        self.refused(NoWay, World, [GOOD] * 2, [(0, 1, 1, 1), (0, 1, 1, 1), (0, 0, 1, 1)])
        self.refused(NoHand, World, [GOOD] * 2, [(0, 2, 1, 1), (0, 1, -1, 5)])
        self.refused(NoHand, World, [GOOD] * 2, [(0, 1, 1, 1), (0, 0, 1, 1), (0, 1, 1, 1)])


class Asking(Case):
    def setUp(self):
        self.world = World([(1, 2), (3, 4), (5, 6)], [(0, 1, 2, 5), (1, 2, 0, None)])

    def test_no_clock_of_no_hand(self):
        for hand in (-1, -3, 3, 4, MANY, -MANY):
            self.refused(NoHand, self.world.clock, hand)

    def test_no_way_of_no_hand(self):
        for hand in (-1, -3, 3, MANY, -MANY):
            self.refused(NoHand, self.world.way, hand, 0)
            self.refused(NoHand, self.world.way, 0, hand)
            self.refused(NoHand, self.world.way, hand, hand)

    def test_no_way_to_itself(self):
        for hand in range(3):
            self.refused(NoHand, self.world.way, hand, hand)

    def test_way_that_is_not_there(self):
        for pair in ((1, 0), (0, 2), (2, 0), (2, 1)):
            self.refused(NoWay, self.world.way, *pair)

    def test_asking_changes_nothing(self):
        self.refused(NoWay, self.world.way, 1, 0)
        self.refused(NoHand, self.world.clock, 7)
        self.assertEqual(self.world.hands(), 3)
        self.assertEqual([self.world.clock(hand) for hand in range(3)], [(1, 2), (3, 4), (5, 6)])
        self.assertEqual(self.world.way(0, 1), (2, 5))
        self.refused(NoWay, self.world.way, 1, 0)


class HandedIn(Case):
    def test_stays_as_it_was(self):
        clocks, ways = [(1, 2), (3, 4)], [(1, 0, 2, 5), (0, 1, 0, None)]
        World(clocks, ways)
        self.assertEqual(clocks, [(1, 2), (3, 4)])
        self.assertEqual(ways, [(1, 0, 2, 5), (0, 1, 0, None)])

    def test_changed_behind_changes_nothing(self):
        clocks, ways = [(1, 2), (3, 4)], [(1, 0, 2, 5)]
        world = World(clocks, ways)
        clocks[0] = (9, 9)
        clocks.append((7, 7))
        ways[0] = (1, 0, 8, 8)
        ways.append((0, 1, 1, 1))
        self.assertEqual(world.hands(), 2)
        self.assertEqual(world.clock(0), (1, 2))
        self.assertEqual(world.way(1, 0), (2, 5))
        self.refused(NoWay, world.way, 0, 1)
        clocks.clear()
        ways.clear()
        self.assertEqual(world.clock(1), (3, 4))
        self.assertEqual(world.way(1, 0), (2, 5))

    def test_two_worlds_share_nothing(self):
        clocks, ways = [GOOD, GOOD], [(0, 1, 2, 5)]
        one = World(clocks, ways)
        ways.append((1, 0, 3, 3))
        other = World(clocks, ways)
        self.refused(NoWay, one.way, 1, 0)
        self.assertEqual(other.way(1, 0), (3, 3))


if __name__ == "__main__":
    unittest.main()
