"""Hands that lie: struck logs, choices of liars, and what is known all the same (points 44 to 49)."""

import itertools
import unittest

from helper import MANY, SIXTY, Case, by_sums, chance, has_history, log_sums, lived_log, some_log, some_world, time_of

from driftmeet.errors import MoreLie, NoHand, NoName, NoNumber
from driftmeet.happenings import NOUGHT
from driftmeet.liars import choices, left, struck, when_but, witness
from driftmeet.logs import check, names, view
from driftmeet.stretches import joined, lies_in
from driftmeet.worlds import World

WORLD = World([(1, 1)] * 4, [(one, other, 0, 2) for one in range(4) for other in range(4) if one != other])
# Hands 1 to 3 each tell hand 0 of a sight; hand 1's came to hand 3 too.
LOG = [
    ("sight", 1, 0, 100, 103),  # (1, 0)
    ("send", 1, 0, 0),          # (1, 1)
    ("sight", 2, 0, 101, 106),  # (2, 0)
    ("send", 2, 0, 0),          # (2, 1)
    ("send", 1, 1, 3),          # (1, 2)
    ("take", 3, 7, (1, 2)),     # (3, 0)
    ("send", 3, 8, 0),          # (3, 1)
    ("take", 0, 5, (1, 1)),     # (0, 0)
    ("take", 0, 5, (2, 1)),     # (0, 1)
    ("take", 0, 6, (3, 1)),     # (0, 2)
    ("look", 0, 9),             # (0, 3)
]
# Hand 2 tells of a sight that goes with neither hand 1's nor hand 3's.
ODD = [
    ("sight", 1, 0, 100, 103), ("send", 1, 0, 0), ("sight", 2, 0, 500, 506), ("send", 2, 0, 0),
    ("sight", 3, 0, 102, 105), ("send", 3, 0, 0),
    ("take", 0, 5, (1, 1)), ("take", 0, 5, (2, 1)), ("take", 0, 5, (3, 1)),
]
# The asker itself has two sights at odds: whoever else lies, there is no history.
OWN = [("sight", 0, 0, 0, 0), ("sight", 1, 0, 3, 3), ("sight", 0, 1, 7, 7), ("send", 1, 1, 0), ("take", 0, 1, (1, 1))]


def struck_by_its_words(log, liars):
    told = []
    for row in log:
        if row[1] in liars:
            continue
        if row[0] == "take" and row[3][0] in liars:
            row = ("look", row[1], row[2])
        told.append(row)
    return told


def lists_by_their_words(hands, asker, many):
    others = [hand for hand in range(hands) if hand != asker]
    return [list(one) for one in itertools.combinations(others, min(many, len(others)))]


def told_by_words(world, log, x, many):
    """[(liars, what is left, its stretch or None)] of points 46 and 47."""
    told = []
    for liars in lists_by_their_words(world.hands(), x[0], many):
        rest = view(world, struck_by_its_words(log, liars), x)
        one = by_sums(log_sums(world, rest), NOUGHT, x) if has_history(world, rest) else None
        told.append((liars, rest, one))
    return told


def forged(log, liars):
    """The sights of the liars told much too late."""
    return [row[:3] + (row[3] + 50, row[4] + 90) if row[0] == "sight" and row[1] in liars else row for row in log]


class Struck(Case):
    def test_of_one(self):
        self.assertEqual(struck(LOG, [1]), [
            ("sight", 2, 0, 101, 106), ("send", 2, 0, 0), ("look", 3, 7), ("send", 3, 8, 0), ("look", 0, 5),
            ("take", 0, 5, (2, 1)), ("take", 0, 6, (3, 1)), ("look", 0, 9),
        ])

    def test_of_several(self):
        self.assertEqual(struck(LOG, [1, 2]), [
            ("look", 3, 7), ("send", 3, 8, 0), ("look", 0, 5), ("look", 0, 5), ("take", 0, 6, (3, 1)), ("look", 0, 9),
        ])
        self.assertEqual(struck(LOG, [0]), LOG[:7])
        self.assertEqual(struck(LOG, [0, 1, 2, 3]), [])

    def test_of_one_that_takes_and_sends_among_liars(self):
        self.assertEqual(struck(LOG, [3]), LOG[:5] + LOG[7:9] + [("look", 0, 6), ("look", 0, 9)])
        self.assertEqual(struck(LOG, [1, 3]), LOG[2:4] + [("look", 0, 5), LOG[8], ("look", 0, 6), ("look", 0, 9)])

    def test_told_twice_and_in_any_order(self):
        for liars in ([2, 1], [1, 1, 2], [2, 1, 2, 1]):
            self.assertEqual(struck(LOG, liars), struck(LOG, [1, 2]))

    def test_none_and_no_hands(self):
        self.assertEqual(struck(LOG, []), LOG)
        self.assertEqual(struck([], [0, 1]), [])
        for hand in (-1, 4, 5, MANY, -MANY):
            self.assertEqual(struck(LOG, [hand]), LOG)
            self.assertEqual(struck(LOG, [hand, 1]), struck(LOG, [1]))

    def test_the_log_stays(self):
        log, liars = list(LOG), [3, 1, 1]
        told = struck(log, liars)
        self.assertIs(type(told), list)
        self.assertEqual(log, LOG)
        self.assertEqual(liars, [3, 1, 1])
        struck(log, []).clear()
        self.assertEqual(log, LOG)

    def test_random_ones(self):
        for seed in range(60):
            luck = chance(seed)
            world = some_world(luck, luck.randint(1, 5))
            log = some_log(luck, world, 25)
            liars = [luck.randrange(-1, 7) for _ in range(luck.randint(0, 4))]
            told = struck(log, liars)
            self.assertEqual(told, struck_by_its_words(log, liars))
            self.assertIsNone(check(world, told))
            self.assertEqual(names(told), [name for name in names(log) if name[0] not in liars])


class Left(Case):
    def test_what_came_by_their_letters_alone_falls_out(self):
        self.assertEqual(left(WORLD, LOG, (0, 2), [2, 3]), [
            ("sight", 1, 0, 100, 103), ("send", 1, 0, 0), ("take", 0, 5, (1, 1)), ("look", 0, 5), ("look", 0, 6),
        ])
        self.assertEqual(left(WORLD, LOG, (0, 0), [2]), LOG[:2] + LOG[7:8])
        self.assertEqual(left(WORLD, LOG, (0, 3), [1, 2, 3]), [("look", 0, k) for k in (5, 5, 6, 9)])
        self.assertEqual(left(WORLD, LOG, (3, 0), []), LOG[:2] + LOG[4:6])

    def test_what_came_by_others_too_stays(self):
        log = [("look", 1, 0), ("send", 1, 1, 2), ("send", 1, 2, 3), ("take", 2, 0, (1, 1)), ("take", 3, 0, (1, 2)),
               ("send", 2, 1, 0), ("send", 3, 1, 0), ("take", 0, 0, (2, 1)), ("take", 0, 0, (3, 1))]
        self.assertEqual(left(WORLD, log, (0, 1), [2]), log[:3] + [log[4], log[6], ("look", 0, 0), log[8]])
        self.assertEqual(left(WORLD, log, (0, 1), [3]), log[:2] + [log[3], log[5], log[7], ("look", 0, 0)])

    def test_no_name(self):
        self.refused(NoName, left, WORLD, LOG, (1, 0), [1])
        self.refused(NoName, left, WORLD, LOG, (0, 2), [2, 0])
        for x in (NOUGHT, (0, 4), (4, 0), (-1, 1), (0, -1), (MANY, MANY)):
            self.refused(NoName, left, WORLD, LOG, x, [])
            self.refused(NoName, left, WORLD, LOG, x, [1])

    def test_random_ones(self):
        for seed in range(40):
            luck = chance(seed)
            world = some_world(luck, luck.randint(2, 5))
            log = some_log(luck, world, 25)
            x = luck.choice(names(log))
            liars = [luck.randrange(world.hands()) for _ in range(2)]
            if x[0] in liars:
                self.refused(NoName, left, world, log, x, liars)
            else:
                told = left(world, log, x, liars)
                self.assertEqual(told, view(world, struck_by_its_words(log, liars), x))
                self.assertIsNone(check(world, told))


class Choices(Case):
    def test_of_the_document(self):
        self.assertEqual(choices(4, 1, 2), [[0, 2], [0, 3], [2, 3]])
        self.assertEqual(choices(4, 1, 0), [[]])

    def test_all_small_ones(self):
        for hands in range(1, 7):
            for asker in range(hands):
                for many in list(range(8)) + [MANY]:
                    told = choices(hands, asker, many)
                    self.assertEqual(told, lists_by_their_words(hands, asker, many))
                    self.assertTrue(all(type(one) is list for one in [told] + told))

    def test_many_as_great_as_all_others_and_greater(self):
        self.assertEqual(choices(4, 3, 3), [[0, 1, 2]])
        self.assertEqual(choices(4, 0, 9), [[1, 2, 3]])
        self.assertEqual(choices(1, 0, 0), [[]])
        self.assertEqual(choices(1, 0, 5), [[]])

    def test_refused(self):
        for many in (-1, 0, 2):
            for hands, asker in ((0, 0), (7, 0), (-1, 0), (MANY, 0), (4, 4), (4, -1), (1, 1), (6, 6), (0, -1), (3, 99)):
                self.refused(NoHand, choices, hands, asker, many)
        for many in (-1, -MANY):
            self.refused(NoNumber, choices, 4, 1, many)
            self.refused(NoNumber, choices, 1, 0, many)

    def test_the_lists_are_the_askers_own(self):
        told = choices(4, 1, 2)
        for one in told:
            one.append(9)
        told.clear()
        self.assertEqual(choices(4, 1, 2), [[0, 2], [0, 3], [2, 3]])


class WhenBut(Case):
    def test_by_hand(self):
        self.assertEqual(when_but(WORLD, LOG, (0, 0), 0), (100, 105))
        self.assertEqual(when_but(WORLD, LOG, (0, 1), 0), (101, 105))
        # Without hand 1 there is hand 2's sight alone, without hand 2 hand 1's.
        self.assertEqual(when_but(WORLD, LOG, (0, 1), 1), (100, 108))
        self.assertEqual(when_but(WORLD, LOG, (0, 1), 2), (None, None))
        self.assertEqual(when_but(WORLD, LOG, (0, 3), 0), (105, 109))
        self.assertEqual(when_but(WORLD, LOG, (0, 3), 1), (105, 112))
        self.assertEqual(when_but(WORLD, LOG, (1, 2), 3), (101, 104))

    def test_choices_without_a_history_are_left_out(self):
        # With one liar only hand 2 can be it.
        self.assertEqual(when_but(WORLD, ODD, (0, 2), 1), (102, 105))
        self.assertEqual(when_but(WORLD, ODD, (0, 2), 2), (100, 508))
        self.assertEqual(when_but(WORLD, ODD, (0, 2), 3), (None, None))
        self.assertEqual(when_but(WORLD, ODD, (0, 0), 0), (100, 105))

    def test_more_lie(self):
        rings = self.refused(MoreLie, when_but, WORLD, ODD, (0, 2), 0).rings
        self.assertEqual([liars for liars, ring in rings], [[]])
        self.goes_round(WORLD, ODD, rings[0][1])
        for many, lists in ((0, [[]]), (1, [[1], [2], [3]]), (2, [[1, 2], [1, 3], [2, 3]]), (3, [[1, 2, 3]]),
                            (SIXTY, [[1, 2, 3]])):
            for ask, *given in ((when_but,), (witness, True), (witness, False, 5)):
                rings = self.refused(MoreLie, ask, WORLD, OWN, (0, 2), many, *given).rings
                self.assertIs(type(rings), list)
                self.assertEqual([pair[0] for pair in rings], lists)
                for pair in rings:
                    self.assertIs(type(pair), tuple)
                    liars, ring = pair
                    self.assertIs(type(liars), list)
                    self.goes_round(WORLD, left(WORLD, OWN, (0, 2), liars), ring)

    def test_a_hand_alone(self):
        world = World([(2, 3)], [])
        for many in (0, 1, MANY):
            self.assertEqual(when_but(world, [("sight", 0, 0, 5, 6), ("look", 0, 2)], (0, 1), many), (9, 12))
            self.assertEqual(when_but(world, [("look", 0, 2)], (0, 0), many), (None, None))

    def test_no_others_ring_counts(self):
        """Hand 1's sights are at odds, but hand 0 has not heard of them."""
        log = [("sight", 1, 0, 0, 0), ("sight", 1, 1, 9, 9), ("sight", 0, 0, 4, 5)]
        self.assertEqual(when_but(WORLD, log, (0, 0), 0), (4, 5))

    def but_is_right(self, world, log, x, many):
        """Tells by how many of the choices there was a history, and of how many."""
        told = told_by_words(world, log, x, many)
        fits = [one for _, _, one in told if one]
        if fits:
            self.assertEqual(when_but(world, log, x, many), joined(fits))
        else:
            rings = self.refused(MoreLie, when_but, world, log, x, many).rings
            self.assertEqual([liars for liars, _ in rings], [liars for liars, _, _ in told])
            for (_, ring), (_, rest, _) in zip(rings, told):
                self.goes_round(world, rest, ring)
        return len(fits), len(told)

    def test_random_ones(self):
        for seed in range(60):
            luck = chance(seed)
            world = some_world(luck, luck.randint(1, 4))
            log, _ = lived_log(luck, world, 24)
            log = forged(log, [luck.randrange(world.hands())])
            self.but_is_right(world, log, luck.choice(names(log)), luck.randint(0, 2))

    def test_random_sights_told_to_one(self):
        found = {"all": 0, "some": 0, "none": 0}
        for seed in range(80):
            luck = chance(seed)
            hands = luck.randint(2, 6)
            world = World([(1, 2)] * hands, [(hand, 0, 0, 3) for hand in range(1, hands)])
            log = []
            for hand in luck.sample(range(1, hands), hands - 1):
                early = luck.choice([0, 2, 4, 20, 40])
                log += [("sight", hand, 0, early, early + luck.randint(0, 5)), ("send", hand, 0, 0)]
            log += [("take", 0, hand, (hand, 1)) for hand in range(1, hands)]
            fits, told = self.but_is_right(world, log, (0, hands - 2), luck.randint(0, hands))
            found["none" if not fits else "all" if fits == told else "some"] += 1
        self.assertGreater(min(found.values()), 5, found)

    def test_whoever_lies_true_time_is_within(self):
        """A lived log in which one hand's sights are forged: hands that allow for one liar still hold true time."""
        for seed in range(40):
            luck = chance(seed)
            world = some_world(luck, luck.randint(2, 4))
            log, times = lived_log(luck, world, 20)
            liar = luck.randrange(world.hands())
            for name, time in zip(names(log), times):
                if name[0] != liar and name[1] % 2 == 0:
                    self.assertTrue(lies_in(time, when_but(world, forged(log, [liar]), name, 1)))


class Witness(Case):
    def witness_is_right(self, world, log, x, many, late, *far):
        end = when_but(world, log, x, many)[1 if late else 0]
        told = witness(world, log, x, many, late, *far)
        self.assertIs(type(told), tuple)
        liars, times = told
        self.assertIs(type(liars), list)
        self.assertIn(liars, lists_by_their_words(world.hands(), x[0], many))
        rest = left(world, log, x, liars)
        self.is_history(world, rest, times)
        time, far = time_of(rest, times, x), far[0] if far else 0
        if end is not None:
            self.assertEqual(time, end)
        elif late:
            self.assertGreaterEqual(time, far)
        else:
            self.assertLessEqual(time, far)

    def test_by_hand(self):
        self.assertEqual(witness(WORLD, LOG, (0, 1), 1, True)[0], [1])
        self.assertEqual(witness(WORLD, LOG, (0, 1), 1, False)[0], [2])
        for many in range(5):
            for late in (True, False):
                for x in names(LOG):
                    self.witness_is_right(WORLD, LOG, x, many, late)
        self.witness_is_right(WORLD, ODD, (0, 2), 1, True)
        self.witness_is_right(WORLD, ODD, (0, 2), 2, False)

    def test_far_told_and_left_out(self):
        for late in (True, False):
            self.witness_is_right(WORLD, LOG, (0, 1), 2, late)
            for far in (-MANY, -SIXTY, -7, 0, 7, SIXTY, MANY):
                self.witness_is_right(WORLD, LOG, (0, 1), 2, late, far)
                self.witness_is_right(WORLD, LOG, (0, 1), 1, late, far)
                self.witness_is_right(WORLD, [("look", 0, 0)], (0, 0), 0, late, far)
            liars, times = witness(WORLD, LOG, (0, 1), 2, late, far=77)
            time = time_of(left(WORLD, LOG, (0, 1), liars), times, (0, 1))
            self.assertTrue(time >= 77 if late else time <= 77)

    def test_open_on_one_side(self):
        world = World([(1, 1)] * 2, [(0, 1, 3, None)])
        log = [("sight", 0, 0, 10, 20), ("send", 0, 1, 1), ("take", 1, 0, (0, 1))]
        self.assertEqual(when_but(world, log, (1, 0), 0), (14, None))
        for far in (-9, 0, 14, 99, MANY):
            self.witness_is_right(world, log, (1, 0), 0, True, far)
            self.witness_is_right(world, log, (1, 0), 0, False, far)

    def test_random_ones(self):
        for seed in range(60):
            luck = chance(seed)
            world = some_world(luck, luck.randint(1, 4))
            log = some_log(luck, world, luck.randint(1, 16))
            x, many = luck.choice(names(log)), luck.randint(0, 3)
            if any(one for _, _, one in told_by_words(world, log, x, many)):
                self.witness_is_right(world, log, x, many, True, luck.randint(-90, 90))
                self.witness_is_right(world, log, x, many, False, luck.randint(-90, 90))


class Refused(Case):
    def test_in_their_order(self):
        for ask, *given in ((when_but,), (witness, True), (witness, False), (witness, True, MANY)):
            for x in (NOUGHT, (0, 3), (4, 0), (-2, 0), (0, -1), (MANY, 0)):
                for many in (-1, 0, 1):
                    self.refused(NoName, ask, WORLD, OWN, x, many, *given)
            for many in (-1, -MANY):
                self.refused(NoNumber, ask, WORLD, OWN, (0, 2), many, *given)
                self.refused(NoNumber, ask, WORLD, LOG, (0, 2), many, *given)
            self.refused(MoreLie, ask, WORLD, OWN, (0, 2), 0, *given)


class HandedIn(Case):
    def test_stays_as_it_was(self):
        log = list(ODD)
        when_but(WORLD, log, (0, 2), 1)
        witness(WORLD, log, (0, 2), 1, True)
        left(WORLD, log, (0, 2), [1])
        self.refused(MoreLie, when_but, WORLD, log, (0, 2), 0)
        self.assertEqual(log, ODD)

    def test_what_is_told_is_the_askers_own(self):
        left(WORLD, LOG, (0, 3), []).clear()
        self.assertEqual(left(WORLD, LOG, (0, 3), []), LOG)
        liars, times = witness(WORLD, LOG, (0, 1), 1, True)
        liars.append(9)
        times.clear()
        self.assertEqual(witness(WORLD, LOG, (0, 1), 1, True)[0], [1])
        rings = self.refused(MoreLie, when_but, WORLD, OWN, (0, 2), 1).rings
        for liars, ring in rings:
            liars.clear()
            ring.clear()
        rings = self.refused(MoreLie, when_but, WORLD, OWN, (0, 2), 1).rings
        self.assertEqual([liars for liars, _ in rings], [[1], [2], [3]])


if __name__ == "__main__":
    unittest.main()
