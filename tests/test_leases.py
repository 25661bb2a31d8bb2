"""Leases and the shelf (points 54 to 58, and 63 of leases)."""

import unittest

from helper import MANY, SIXTY, Case, chance, has_history, log_sums, lived_log, some_log, some_world, time_of

from driftmeet.errors import Backward, NoLease, NoName, Ring, StillLet
from driftmeet.happenings import NOUGHT
from driftmeet.known import surely
from driftmeet.leases import Shelf, doubt, hold_till, holds
from driftmeet.logs import check, names, view
from driftmeet.worlds import World

# The lender's ticks are long beside the letters' ways.
WORLD = World([(100, 110), (2, 3), (1, 1)], [(0, 1, 1, 5), (0, 2, 1, None), (1, 0, 0, 3), (1, 2, 0, 5), (2, 1, 0, 9)])
LOG = [
    ("send", 0, 7, 1),       # (0, 0): the letter
    ("take", 1, 40, (0, 0)),  # (1, 0)
    ("look", 1, 50),         # (1, 1)
    ("send", 1, 52, 2),      # (1, 2)
    ("take", 2, 0, (1, 2)),  # (2, 0)
]
# The lender's own readings come to hand 1 by a second letter.
SEEN = [
    ("send", 0, 0, 1), ("take", 1, 0, (0, 0)), ("look", 0, 5), ("send", 0, 5, 1), ("look", 0, 9),
    ("take", 1, 200, (0, 2)),
]
# Hand 1 knows of two sights at odds; hand 2 does not.
AT_ODDS = [("send", 0, 7, 1), ("take", 1, 0, (0, 0)), ("sight", 1, 0, 5, 5), ("sight", 1, 0, 6, 6), ("look", 2, 0)]


def held_by_words(world, log, lease, y):
    """(whether the first three conditions of point 54 are so, whether all four are)."""
    (letter, until), seen = lease, view(world, log, y)
    lessee = dict(zip(names(log), log))[letter][3]
    taken = [row for row in seen if row[0] == "take" and row[3] == letter]
    gone = [row for row in seen if row[1] == letter[0] and row[2] >= until]
    if y[0] != lessee or not taken or gone:
        return False, False
    ended = seen + [("look", letter[0], until)]
    return True, log_sums(world, ended).get((names(ended)[-1], y), 0) < 0


class LeaseCase(Case):
    def doubt_is_right(self, world, log, lease, y):
        ended = view(world, log, y) + [("look", lease[0][0], lease[1])]
        times = doubt(world, log, lease, y)
        self.is_history(world, ended, times)
        self.assertLessEqual(time_of(ended, times, names(ended)[-1]), time_of(ended, times, y))

    def lease_is(self, world, log, lease, y, could, held):
        self.assertIs(holds(world, log, lease, y), held)
        if could and not held:
            self.doubt_is_right(world, log, lease, y)
        else:
            self.assertIsNone(doubt(world, log, lease, y))


class Holds(LeaseCase):
    def test_at_the_take_and_behind_it(self):
        for until in (8, 9, 99, MANY):
            self.lease_is(WORLD, LOG, ((0, 0), until), (1, 0), True, True)
            self.lease_is(WORLD, LOG, ((0, 0), until), (1, 1), True, True)
            self.lease_is(WORLD, LOG, ((0, 0), until), (1, 2), True, True)

    def test_not_the_lessees(self):
        """Hand 2 knows all that hand 1 did, and that it is early enough."""
        lease = ((0, 0), 99)
        ended = LOG + [("look", 0, 99)]
        self.assertIs(surely(WORLD, ended, (2, 0), (0, 1)), True)
        self.lease_is(WORLD, LOG, lease, (2, 0), False, False)
        self.lease_is(WORLD, LOG, lease, (0, 0), False, False)
        back = LOG[:2] + [("send", 1, 80, 0), ("take", 0, 8, (1, 1))]
        self.lease_is(WORLD, back, lease, (0, 1), False, False)

    def test_the_letter_is_not_taken_in_the_view(self):
        log = [("send", 0, 0, 1), ("take", 1, 0, (0, 0)), ("send", 0, 1, 1), ("look", 1, 2), ("take", 1, 40, (0, 1))]
        lease = ((0, 1), 5)
        self.assertIs(surely(WORLD, log[:4] + [("look", 0, 5)], (1, 1), (0, 2)), True)
        self.lease_is(WORLD, log, lease, (1, 0), False, False)
        self.lease_is(WORLD, log, lease, (1, 1), False, False)
        self.lease_is(WORLD, log, lease, (1, 2), True, True)
        self.lease_is(WORLD, [("send", 0, 1, 1), ("look", 1, 5)], ((0, 0), 9), (1, 0), False, False)

    def test_another_letter_taken_is_not_enough(self):
        log = [("send", 0, 0, 1), ("send", 0, 0, 1), ("take", 1, 0, (0, 1))]
        self.lease_is(WORLD, log, ((0, 0), 9), (1, 0), False, False)
        self.lease_is(WORLD, log, ((0, 1), 9), (1, 0), True, True)

    def test_the_lender_seen_at_until_below_and_above(self):
        for until, could in ((5, False), (4, False), (0, False), (6, True), (7, True)):
            self.lease_is(WORLD, SEEN, ((0, 0), until), (1, 1), could, could)
        # In the view of the first take the lender was not seen behind its letter; that it was later is not in it.
        self.lease_is(WORLD, SEEN, ((0, 0), 5), (1, 0), True, True)
        self.lease_is(WORLD, SEEN, ((0, 0), 1), (1, 0), True, True)
        self.lease_is(WORLD, SEEN, ((0, 0), 0), (1, 0), False, False)

    def test_others_readings_at_until_do_not_count(self):
        self.lease_is(WORLD, LOG, ((0, 0), 8), (1, 2), True, True)
        self.lease_is(WORLD, LOG, ((0, 0), 50), (1, 1), True, True)

    def test_sooner_by_one_grain_and_by_none(self):
        for most, could, held in ((98, True, True), (99, True, True), (100, True, False), (101, True, False)):
            world = World([(100, 110), (1, 1)], [(0, 1, 0, most)])
            log = [("send", 0, 7, 1), ("take", 1, 40, (0, 0))]
            self.lease_is(world, log, ((0, 0), 8), (1, 0), could, held)
        for reading, held in ((41, True), (71, True), (72, False), (90, False)):
            # 5 by the way and 3 for each tick behind 40, against 100.
            log = [("send", 0, 7, 1), ("take", 1, 40, (0, 0)), ("look", 1, reading)]
            self.lease_is(WORLD, log, ((0, 0), 8), (1, 1), True, held)

    def test_a_letter_that_may_take_as_long_as_it_likes(self):
        log = [("send", 0, 7, 2), ("take", 2, 0, (0, 0))]
        self.lease_is(WORLD, log, ((0, 0), MANY), (2, 0), True, False)
        sure = [("sight", 0, 7, 0, 9), ("send", 0, 7, 2), ("take", 2, 0, (0, 1)), ("sight", 2, 0, 0, 50)]
        self.lease_is(WORLD, sure, ((0, 1), 8), (2, 1), True, True)
        self.lease_is(WORLD, sure, ((0, 1), 8), (2, 0), True, False)

    def test_until_at_the_letters_own_reading(self):
        self.lease_is(WORLD, LOG, ((0, 0), 7), (1, 0), False, False)

    def test_random_ones(self):
        found = {}
        for seed in range(150):
            luck = chance(seed)
            world = some_world(luck, luck.randint(2, 3))
            log, _ = lived_log(luck, world, 14)
            taken = [row[3] for row in log if row[0] == "take"]
            for letter in taken[:2]:
                reading = dict(zip(names(log), log))[letter][2]
                lease = (letter, reading + luck.choice([0, 1, 3, 6, 12]))
                for y in luck.sample(names(log), 4) + names(log)[-1:]:
                    could, held = held_by_words(world, log, lease, y)
                    self.lease_is(world, log, lease, y, could, held)
                    found[(could, held)] = found.get((could, held), 0) + 1
        self.assertGreater(min(found.values()), 20)
        self.assertEqual(len(found), 3)


class Till(LeaseCase):
    def test_at_the_edge_and_a_tick_beyond(self):
        begun = LOG[:2]
        self.assertEqual(hold_till(WORLD, begun, ((0, 0), 8)), 40 + 31)
        self.lease_is(WORLD, begun + [("look", 1, 71)], ((0, 0), 8), (1, 1), True, True)
        self.lease_is(WORLD, begun + [("look", 1, 72)], ((0, 0), 8), (1, 1), True, False)
        self.assertEqual(hold_till(WORLD, begun, ((0, 0), 9)), 40 + 64)
        self.assertEqual(hold_till(WORLD, LOG[:3], ((0, 0), 9)), 104)

    def test_the_last_happenings_reading_itself(self):
        for ticks, till in ((31, 71), (32, None), (30, 71)):
            log = LOG[:2] + [("look", 1, 40 + ticks)]
            self.assertEqual(hold_till(WORLD, log, ((0, 0), 8)), till)

    def test_one_grain_at_the_last_happening(self):
        for most, till in ((98, 40), (99, 40), (100, None)):
            world = World([(100, 110), (3, 3)], [(0, 1, 0, most)])
            self.assertEqual(hold_till(world, LOG[:2], ((0, 0), 8)), till)

    def test_far_off(self):
        for far in (SIXTY, MANY):
            # -5 - 3 * k against 100 * far.
            till = hold_till(WORLD, LOG[:2], ((0, 0), 7 + far))
            self.assertEqual(till, 40 + (100 * far - 6) // 3)
            self.assertIs(holds(WORLD, LOG[:2] + [("look", 1, till)], ((0, 0), 7 + far), (1, 1)), True)
            self.assertIs(holds(WORLD, LOG[:2] + [("look", 1, till + 1)], ((0, 0), 7 + far), (1, 1)), False)

    def test_none(self):
        lease = ((0, 0), 99)
        self.assertIsNone(hold_till(WORLD, LOG[:1], lease))
        self.assertIsNone(hold_till(WORLD, LOG[:1] + [("look", 2, 0)], lease))
        self.assertIsNone(hold_till(WORLD, LOG[:1] + [("look", 1, 0)], lease))
        self.assertIsNone(hold_till(WORLD, LOG, ((0, 0), 7)))
        self.assertIsNone(hold_till(WORLD, SEEN, ((0, 0), 5)))
        self.assertIsNone(hold_till(WORLD, SEEN, ((0, 0), 1)))
        self.assertIsNone(hold_till(WORLD, [("send", 0, 7, 2), ("take", 2, 0, (0, 0))], lease))

    def test_by_the_lessees_view_alone(self):
        """Another's sight would tell more, but the lessee has not heard of it."""
        log = [("sight", 0, 7, 0, 0), ("send", 0, 7, 1), ("take", 1, 40, (0, 1)), ("look", 2, 0)]
        kept = hold_till(WORLD, log, ((0, 1), 8))
        self.assertEqual(hold_till(WORLD, log + [("sight", 0, 8, 110, 110)], ((0, 1), 8)), kept)
        self.assertEqual(hold_till(WORLD, log + [("look", 0, 9)], ((0, 1), 8)), kept)

    def test_random_ones_by_trying_readings(self):
        found = {True: 0, False: 0}
        for seed in range(120):
            luck = chance(seed)
            world = some_world(luck, 2)
            log, _ = lived_log(luck, world, 8)
            for letter in [row[3] for row in log if row[0] == "take"][-1:]:
                rows = dict(zip(names(log), log))
                lease, lessee = (letter, rows[letter][2] + luck.choice([1, 3, 8, 12])), rows[letter][3]
                own = [row[2] for row in log if row[1] == lessee]
                number = len(own)
                held = [k for k in range(own[-1], own[-1] + 70)
                        if held_by_words(world, log + [("look", lessee, k)], lease, (lessee, number))[1]]
                self.assertEqual(hold_till(world, log, lease), max(held, default=None))
                found[held != []] += 1
        self.assertGreater(min(found.values()), 10, found)


class Doubt(LeaseCase):
    def test_none_where_held_or_a_condition_is_missing(self):
        self.assertIsNone(doubt(WORLD, LOG, ((0, 0), 8), (1, 0)))
        self.assertIsNone(doubt(WORLD, LOG, ((0, 0), 7), (1, 0)))
        self.assertIsNone(doubt(WORLD, LOG, ((0, 0), 8), (2, 0)))
        self.assertIsNone(doubt(WORLD, [("send", 0, 7, 1), ("look", 1, 0)], ((0, 0), 8), (1, 0)))
        self.assertIsNone(doubt(WORLD, SEEN, ((0, 0), 5), (1, 1)))

    def test_told(self):
        log = LOG[:2] + [("look", 1, 90)]
        self.doubt_is_right(WORLD, log, ((0, 0), 8), (1, 1))
        self.doubt_is_right(WORLD, [("send", 0, 7, 2), ("take", 2, 0, (0, 0))], ((0, 0), MANY), (2, 0))
        far = LOG[:2] + [("look", 1, MANY)]
        self.doubt_is_right(WORLD, far, ((0, 0), 8), (1, 1))
        self.assertEqual(len(doubt(WORLD, log, ((0, 0), 8), (1, 1))), 4)

    def test_of_the_view_of_y(self):
        log = LOG[:2] + [("look", 1, 90), ("look", 2, 3), ("look", 0, 500)]
        self.doubt_is_right(WORLD, log, ((0, 0), 8), (1, 1))


class Refused(LeaseCase):
    def test_no_lease_first(self):
        letters = [NOUGHT, (0, 1), (0, -1), (1, 0), (1, 1), (2, 0), (9, 9), (-2, 0), (MANY, 0)]
        for lease in [(letter, 99) for letter in letters] + [((0, 0), 6), ((0, 0), -MANY)]:
            for log in (LOG, AT_ODDS, LOG[:1]):
                for ask in (holds, doubt):
                    for y in ((1, 0), (2, 0), (7, 7), NOUGHT):
                        self.refused(NoLease, ask, WORLD, log, lease, y)
                self.refused(NoLease, hold_till, WORLD, log, lease)
        self.refused(NoLease, hold_till, WORLD, [], ((0, 0), 1))

    def test_no_name_behind_it(self):
        for ask in (holds, doubt):
            for y in (NOUGHT, (1, 3), (0, 1), (2, 1), (3, 0), (-2, 0), (1, -1), (MANY, 0)):
                self.refused(NoName, ask, WORLD, LOG, ((0, 0), 99), y)
            self.refused(NoName, ask, WORLD, AT_ODDS, ((0, 0), 99), (1, 3))

    def test_ring_of_the_view_whatever_else_is_so(self):
        own = view(WORLD, AT_ODDS, (1, 2))
        for lease in (((0, 0), 99), ((0, 0), 7)):
            for ask in (holds, doubt):
                self.goes_round(WORLD, own, self.refused(Ring, ask, WORLD, AT_ODDS, lease, (1, 2)).ring)
            self.goes_round(WORLD, own, self.refused(Ring, hold_till, WORLD, AT_ODDS, lease).ring)
            self.assertIs(holds(WORLD, AT_ODDS, lease, (1, 1)), lease[1] == 99)
            self.assertIs(holds(WORLD, AT_ODDS, lease, (2, 0)), False)

    def test_ring_where_y_is_not_the_lessees_or_the_letter_not_taken(self):
        log = [("send", 0, 0, 1), ("sight", 2, 0, 5, 5), ("sight", 2, 0, 6, 6), ("look", 1, 0)]
        for ask in (holds, doubt):
            self.goes_round(WORLD, log, self.refused(Ring, ask, WORLD, log, ((0, 0), 5), (2, 1)).ring)
        self.assertIsNone(hold_till(WORLD, log, ((0, 0), 5)))
        log = [("send", 0, 0, 1), ("sight", 1, 0, 5, 5), ("sight", 1, 0, 6, 6)]
        self.goes_round(WORLD, log, self.refused(Ring, hold_till, WORLD, log, ((0, 0), 5)).ring)

    def test_no_view_is_needed_without_a_happening_of_the_lessee(self):
        log = [("send", 0, 0, 1), ("sight", 0, 0, 5, 5), ("sight", 0, 0, 6, 6), ("sight", 2, 0, 5, 5)]
        self.assertIsNone(hold_till(WORLD, log, ((0, 0), 5)))

    def test_random_rings(self):
        found = {True: 0, False: 0}
        for seed in range(80):
            luck = chance(seed)
            world = some_world(luck, luck.randint(2, 3))
            log = some_log(luck, world, 12)
            sends = [name for name, row in zip(names(log), log) if row[0] == "send"]
            if sends:
                letter, y = luck.choice(sends), luck.choice(names(log)[-4:])
                lease = (letter, dict(zip(names(log), log))[letter][2] + luck.randint(0, 5))
                seen = view(world, log, y)
                found[has_history(world, seen)] += 1
                if has_history(world, seen):
                    self.lease_is(world, log, lease, y, *held_by_words(world, log, lease, y))
                else:
                    self.goes_round(world, seen, self.refused(Ring, holds, world, log, lease, y).ring)
                    self.goes_round(world, seen, self.refused(Ring, doubt, world, log, lease, y).ring)
        self.assertGreater(min(found.values()), 5, found)


class Shelves(Case):
    def test_granted(self):
        shelf = Shelf()
        self.assertIsNone(shelf.free_from("cart"))
        self.assertIsNone(shelf.grant("cart", 3, 9))
        self.assertEqual(shelf.free_from("cart"), 9)
        self.assertIsNone(shelf.free_from("spade"))
        self.assertIsNone(shelf.grant("spade", 3, 3))
        self.assertEqual(shelf.free_from("spade"), 3)
        shelf.grant("cart", 9, 20)
        self.assertEqual(shelf.free_from("cart"), 20)

    def test_granted_again_at_until_itself(self):
        shelf = Shelf()
        shelf.grant("cart", -5, -2)
        self.assertEqual(self.refused(StillLet, shelf.grant, "cart", -3, 7).until, -2)
        shelf.grant("cart", -2, 0)
        shelf.grant("cart", 0, 0)
        shelf.grant("cart", 0, 1)
        self.assertEqual(self.refused(StillLet, shelf.grant, "cart", 0, 5).until, 1)
        self.assertEqual(shelf.free_from("cart"), 1)

    def test_the_first_of_the_refusals(self):
        shelf = Shelf()
        shelf.grant("cart", 10, 50)
        self.assertEqual(self.refused(Backward, shelf.grant, "spade", 9, 50).last, 10)
        self.assertEqual(self.refused(Backward, shelf.grant, "spade", 9, 8).last, 10)
        self.assertEqual(self.refused(Backward, shelf.grant, "cart", 9, 8).last, 10)
        self.refused(NoLease, shelf.grant, "cart", 20, 19)
        self.refused(NoLease, shelf.grant, "spade", 10, 9)
        self.assertEqual(self.refused(StillLet, shelf.grant, "cart", 20, 20).until, 50)
        self.assertEqual(self.refused(StillLet, shelf.grant, "cart", 49, MANY).until, 50)

    def test_what_is_refused_changes_nothing(self):
        shelf = Shelf()
        self.refused(NoLease, shelf.grant, "cart", 90, 89)
        shelf.grant("cart", 10, 50)
        self.refused(StillLet, shelf.grant, "cart", 40, 60)
        self.refused(NoLease, shelf.grant, "spade", 45, 44)
        self.refused(Backward, shelf.grant, "spade", 9, 60)
        self.assertEqual(shelf.lets(0), [("cart", 50)])
        self.assertIsNone(shelf.free_from("spade"))
        # None of the refused readings counts: ten is the last one still.
        shelf.grant("spade", 10, 12)
        self.assertEqual(shelf.lets(0), [("cart", 50), ("spade", 12)])

    def test_any_first_reading(self):
        for reading in (-MANY, -1, 0, MANY):
            shelf = Shelf()
            shelf.grant("", reading, reading + MANY)
            self.assertEqual(shelf.free_from(""), reading + MANY)
            self.assertEqual(self.refused(Backward, shelf.grant, "a", reading - 1, reading).last, reading)

    def test_lets_sorted_and_at_any_reading(self):
        shelf = Shelf()
        self.assertEqual(shelf.lets(0), [])
        for thing, until in (("spade", 30), ("cart", 20), ("Rope", 25), ("axe 10", 40), ("axe 2", 10)):
            shelf.grant(thing, 10, until)
        told = [("Rope", 25), ("axe 10", 40), ("cart", 20), ("spade", 30)]
        self.assertEqual(shelf.lets(10), told)
        self.assertEqual(shelf.lets(19), told)
        self.assertEqual(shelf.lets(9), told[:2] + [("axe 2", 10)] + told[2:])
        self.assertEqual(shelf.lets(-MANY), shelf.lets(9))
        self.assertEqual(shelf.lets(20), [("Rope", 25), ("axe 10", 40), ("spade", 30)])
        self.assertEqual(shelf.lets(39), [("axe 10", 40)])
        self.assertEqual(shelf.lets(40), [])
        # Asking at a later reading is no grant there.
        shelf.grant("axe 2", 10, 11)

    def test_what_is_told_is_the_askers_own(self):
        shelf = Shelf()
        shelf.grant("cart", 0, 9)
        told = shelf.lets(0)
        told.clear()
        self.assertEqual(shelf.lets(0), [("cart", 9)])
        held = shelf.lets(0)
        shelf.grant("spade", 0, 9)
        self.assertEqual(held, [("cart", 9)])
        self.assertEqual(Shelf().lets(0), [])


class LetTwice(Case):
    """Point 58: whoever holds the first lease comes ahead of whoever holds the second, in every history."""

    def let_twice(self, seed):
        """A lived log of a lender, 0, and two lessees; the leases as the shelf granted them."""
        luck = chance(seed)
        world = World([(3, 4), (1, 2), (2, 2)], [(0, 1, 0, 2), (0, 2, 1, 3), (1, 2, 0, 4), (2, 1, 0, 1)])
        shelf, log, leases = Shelf(), [], []
        reading = luck.randint(-5, 5)
        for lessee in luck.choice([(1, 2), (2, 1), (1, 1), (2, 2)]):
            until = reading + luck.randint(2, 9)
            shelf.grant("cart", reading, until)
            letter = (0, len([row for row in log if row[1] == 0]))
            log.append(("send", 0, reading, lessee))
            start = max([row[2] for row in log if row[1] == lessee], default=0)
            log.append(("take", lessee, start + luck.randint(5, 30), letter))
            log += [("look", lessee, log[-1][2] + ticks) for ticks in (1, 3, 7)]
            leases.append((letter, until))
            reading = until + luck.choice([0, 0, 1])
        return world, log, leases

    def test_no_two_at_one_time(self):
        seen = 0
        for seed in range(60):
            world, log, leases = self.let_twice(seed)
            self.assertIsNone(check(world, log))
            if not has_history(world, log):
                continue
            first = [y for y in names(log) if holds(world, log, leases[0], y)]
            second = [y for y in names(log) if holds(world, log, leases[1], y)]
            for one in first:
                for other in second:
                    self.assertIs(surely(world, log, one, other), True)
                    seen += 1
        self.assertGreater(seen, 50)


class HandedIn(Case):
    def test_stays_as_it_was(self):
        log = list(LOG)
        for ask in (holds, doubt):
            ask(WORLD, log, ((0, 0), 8), (1, 1))
            ask(WORLD, log, ((0, 0), 8), (2, 0))
        hold_till(WORLD, log, ((0, 0), 8))
        self.assertEqual(log, LOG)

    def test_what_is_told_is_the_askers_own(self):
        log = LOG[:2] + [("look", 1, 90)]
        doubt(WORLD, log, ((0, 0), 8), (1, 1)).clear()
        self.assertEqual(len(doubt(WORLD, log, ((0, 0), 8), (1, 1))), 4)


if __name__ == "__main__":
    unittest.main()
