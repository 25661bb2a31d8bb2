"""What several test files need: a case that looks at what is told, and worlds, logs and bounds made by a told seed."""

import itertools
import random
import unittest

from driftmeet.bounds import bounds, broken
from driftmeet.errors import DriftError
from driftmeet.happenings import NOUGHT
from driftmeet.logs import names
from driftmeet.worlds import World

MANY = 10 ** 199 + 7
SIXTY = 10 ** 59 + 3


class Case(unittest.TestCase):
    def refused(self, kind, ask, *given):
        """Just this refusal comes back, not one of another class; it is handed on for a look at its fields."""
        with self.assertRaises(DriftError) as told:
            ask(*given)
        self.assertIs(type(told.exception), kind)
        return told.exception

    def is_history(self, world, log, times):
        self.assertIs(type(times), list)
        self.assertEqual(len(times), len(log))
        for time in times:
            self.assertIs(type(time), int)
        self.assertEqual(broken(world, log, times), [])

    def goes_round(self, world, log, ring):
        """By bounds of the log from each name to the next one and from the last to the first, with a sum below 0."""
        self.assertIs(type(ring), list)
        least = {}
        for x, y, m in bounds(world, log):
            least[(x, y)] = min(m, least.get((x, y), m))
        pairs = list(zip(ring, ring[1:] + ring[:1]))
        for pair in pairs:
            self.assertIn(pair, least)
        self.assertLess(sum(least[pair] for pair in pairs), 0)


def chance(seed):
    return random.Random(seed)


def some_world(luck, hands):
    clocks = []
    for _ in range(hands):
        short = luck.randint(1, 4)
        clocks.append((short, short + luck.choice([0, 0, 1, 3])))
    ways = []
    for one in range(hands):
        for other in range(hands):
            if one != other and luck.random() < 0.8:
                least = luck.randint(0, 5)
                ways.append((one, other, least, luck.choice([None, least, least + 1, least + 6])))
    return World(clocks, ways)


def leads(world, one, other):
    try:
        world.way(one, other)
    except DriftError:
        return False
    return True


def some_row(luck, world, hand, reading, waiting):
    """A row without a fault for this hand; waiting holds the letters that were not taken yet, (letter, to)."""
    aims = [other for other in range(world.hands()) if other != hand and leads(world, hand, other)]
    mine = [letter for letter, to in waiting if to == hand]
    kind = luck.choice(["look", "sight", "send", "take", "send", "take"])
    if kind == "send" and aims:
        return ("send", hand, reading, luck.choice(aims))
    if kind == "take" and mine:
        return ("take", hand, reading, luck.choice(mine))
    if kind == "sight":
        early = luck.randint(-10, 60)
        return ("sight", hand, reading, early, early + luck.randint(0, 40))
    return ("look", hand, reading)


def some_log(luck, world, length):
    """A log without a fault; whether it has a history is open."""
    log, waiting = [], []
    readings = [luck.randint(-3, 3) for _ in range(world.hands())]
    counts = [0] * world.hands()
    for _ in range(length):
        hand = luck.randrange(world.hands())
        readings[hand] += luck.choice([0, 1, 1, 2, 5])
        row = some_row(luck, world, hand, readings[hand], waiting)
        log.append(row)
        if row[0] == "send":
            waiting.append(((hand, counts[hand]), row[3]))
        if row[0] == "take":
            waiting = [(letter, to) for letter, to in waiting if letter != row[3]]
        counts[hand] += 1
    return log


def taken_at(luck, world, hand, last, letter, sent):
    """(reading, time) at which the hand could take the letter by its clock and by the way, or None."""
    least, most = world.way(letter[0], hand)
    short, long = world.clock(hand)
    for ticks in luck.sample(range(40), 40):
        early = max(sent + least, last[1] + short * ticks)
        late = last[1] + long * ticks if most is None else min(sent + most, last[1] + long * ticks)
        if early <= late:
            return last[0] + ticks, luck.randint(early, late)
    return None


def lived_log(luck, world, length):
    """A log without a fault, and the true times by which it came about: so it has a history."""
    log, times, waiting = [], [], []
    last = [(luck.randint(-9, 9), luck.randint(-9, 9)) for _ in range(world.hands())]
    counts = [0] * world.hands()
    for _ in range(length):
        hand = luck.randrange(world.hands())
        row = some_row(luck, world, hand, 0, [(letter, to) for letter, to, _ in waiting])
        ticks = luck.choice([0, 1, 1, 2, 5])
        short, long = world.clock(hand)
        when = last[hand][0] + ticks, last[hand][1] + luck.randint(short * ticks, long * ticks)
        if row[0] == "take":
            sent = [time for letter, _, time in waiting if letter == row[3]][0]
            could = taken_at(luck, world, hand, last[hand], row[3], sent)
            row, when = (row, could) if could else (("look", hand, 0), when)
        row = row[:2] + when[:1] + row[3:]
        if row[0] == "sight":
            row = row[:3] + (when[1] - luck.randint(0, 9), when[1] + luck.randint(0, 9))
        if row[0] == "send":
            waiting.append(((hand, counts[hand]), row[3], when[1]))
        if row[0] == "take":
            waiting = [one for one in waiting if one[0] != row[3]]
        log.append(row)
        times.append(when[1])
        last[hand] = when
        counts[hand] += 1
    return log, times


def some_bounds(luck, number, many, size=9):
    """Bounds (x, y, m) that some times keep all together, some of them just so: rings of nought are among them."""
    some = [(n // 4, n % 4) for n in range(number)]
    hidden = {x: luck.randint(-size, size) for x in some}
    told = []
    for _ in range(many):
        x, y = luck.choice(some), luck.choice(some)
        told.append((x, y, hidden[y] - hidden[x] + luck.choice([0, 0, 1, luck.randint(0, size)])))
    return some, told


def least_sums(some, told):
    """By the words of point 23: {(x, y): least sum}, where a way leads. Each middle name is tried in its turn."""
    sums = {}
    for x, y, m in told:
        sums[(x, y)] = min(m, sums.get((x, y), m))
    for x in some:
        sums[(x, x)] = min(0, sums.get((x, x), 0))
    for middle in some:
        for x in some:
            for y in some:
                if (x, middle) in sums and (middle, y) in sums:
                    total = sums[(x, middle)] + sums[(middle, y)]
                    sums[(x, y)] = min(total, sums.get((x, y), total))
    return sums


def log_sums(world, log):
    """{(x, y): least sum} by the bounds of the log."""
    return least_sums([NOUGHT] + names(log), bounds(world, log))


def has_history(world, log):
    """A way back to its own beginning with a sum below nought leaves no history."""
    sums = log_sums(world, log)
    return all(sums[(x, x)] == 0 for x in [NOUGHT] + names(log))


def by_sums(sums, x, y):
    """The stretch of point 33, by {(x, y): least sum}."""
    back = sums.get((y, x))
    return (None if back is None else -back, sums.get((x, y)))


def time_of(log, times, name):
    return dict(zip([NOUGHT] + names(log), [0] + times))[name]


def small_logs():
    """(world, log, all its histories) by trying all times that could be: small logs with a history and without."""
    world = World([(1, 2), (1, 1)], [(0, 1, 1, 2)])
    for early, late, ticks in itertools.product(range(-1, 4), range(-1, 4), range(3)):
        log = [("sight", 0, 0, 0, 1), ("send", 0, ticks, 1), ("take", 1, 0, (0, 1))]
        if early <= late:
            log.append(("sight", 1, 1, early, late))
        places = {name: where for where, name in enumerate([NOUGHT] + names(log))}
        told = [(places[x], places[y], m) for x, y, m in bounds(world, log)]
        tried = [(0,) + times for times in itertools.product(range(9), repeat=len(log))]
        found = [times for times in tried if all(times[y] - times[x] <= m for x, y, m in told)]
        yield world, log, [list(times[1:]) for times in found]
