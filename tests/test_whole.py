"""What holds over the whole program (points 1 and 2)."""

import copy
import unittest

from helper import Case, chance, lived_log, some_world, time_of

from driftmeet.bounds import bounds, broken
from driftmeet.dates import date, first_sure, is_out, last_sure, stretch_at
from driftmeet.desk import Desk
from driftmeet.errors import DriftError
from driftmeet.happenings import NOUGHT, happening
from driftmeet.histories import history, net_of
from driftmeet.known import between, latest, road, spread, surely, when
from driftmeet.leases import Shelf, doubt, hold_till, holds
from driftmeet.liars import choices, left, struck, when_but, witness
from driftmeet.logs import check, cut, names, past, place, view
from driftmeet.meeting import Meeting
from driftmeet.roads import road as road_by
from driftmeet.roads import spans
from driftmeet.shown import Shown
from driftmeet.stretches import joined, lies_in, met, moved, within
from driftmeet.texts import (
    read_list, read_log, read_names, read_row, read_world, show_list, show_log, show_names, show_row, show_world,
)
from driftmeet.worlds import World

CLOCKS = [(2, 3), (1, 1), (1, 2)]
WAYS = [(0, 1, 5, 8), (1, 0, 2, None), (1, 2, 0, 4), (2, 0, 0, 9)]
LOG = [
    ("sight", 0, 10, 100, 104), ("send", 0, 12, 1), ("look", 1, -4), ("take", 1, 3, (0, 1)), ("send", 1, 3, 0),
    ("send", 1, 4, 2), ("take", 2, 7, (1, 3)), ("take", 0, 19, (1, 2)), ("look", 2, 60),
]
NONE = [("sight", 0, 0, 0, 5), ("send", 0, 1, 1), ("sight", 0, 1, 9, 10), ("look", 1, 0)]
EDGES = {(0, 0): {(0, 1): 3, (1, 0): 9}, (0, 1): {(0, 0): -3, (1, 0): 2}, (1, 0): {}}
LEASE = ((0, 1), 17)


def every_ask(world, log):
    """Each function of the interface that tells of what it is handed, with something to hand in."""
    first, last = names(log)[0], names(log)[-1]
    return [
        (joined, [(1, 2), (5, None)]), (met, (1, 4), (2, 9)), (moved, (3, 9), 2, 5), (within, (1, 2), (0, 3)),
        (happening, ("look", 0, 1)), (names, log), (check, world, log), (place, log, last), (past, world, log, last),
        (cut, log, [1, 1, 0]), (view, world, log, last), (spans, EDGES, (0, 0)), (road_by, EDGES, (0, 0), (1, 0)),
        (bounds, world, log), (broken, world, log, [0] * len(log)), (net_of, world, log), (history, world, log),
        (between, world, log, first, last), (when, world, log, last), (road, world, log, first, last),
        (latest, world, log, first, last), (latest, world, log, last, first, 9), (surely, world, log, first, last),
        (spread, world, log, [first, last, NOUGHT]), (struck, log, [1]), (left, world, log, first, [2, 1]),
        (choices, 4, 1, 2), (when_but, world, log, last, 1), (witness, world, log, last, 1, True),
        (witness, world, log, last, 1, False, 5), (stretch_at, world, log, 1, 99), (first_sure, world, log, 0, 300),
        (last_sure, world, log, 0, 300), (date, world, log, last), (is_out, world, log, first, last),
        (holds, world, log, LEASE, (1, 0)), (hold_till, world, log, LEASE), (doubt, world, log, LEASE, last),
        (doubt, world, log, ((0, 1), 13), (1, 1)), (show_list, [1, 2]), (show_names, [first, NOUGHT]),
        (show_row, log[0]), (show_log, log), (show_world, world), (read_list, "1 2"), (read_names, "1.0 2.0"),
        (read_row, "look 0 1"), (read_log, "look 0 1; take 0 2 1.1"), (read_world, "clock 1 1"),
    ]


def written(thing):
    """Something told, as values that can be set side by side; objects by what they tell."""
    if isinstance(thing, DriftError):
        return type(thing), copy.deepcopy(vars(thing))
    if isinstance(thing, World):
        return show_world(thing)
    if hasattr(thing, "edges"):
        return thing.edges()
    if hasattr(thing, "row"):
        return thing.row()
    return copy.deepcopy(thing)


def answer(ask, given):
    """What is told, or the refusal."""
    try:
        return ask(*given)
    except DriftError as refusal:
        return refusal


def spoil(thing):
    """Empties all lists and dicts of a thing told."""
    if isinstance(thing, DriftError):
        spoil(list(vars(thing).values()))
    if isinstance(thing, (list, tuple)):
        for part in thing:
            spoil(part)
    if isinstance(thing, dict):
        for part in thing.values():
            spoil(part)
    if isinstance(thing, (list, dict)):
        thing.clear()


class Functions(Case):
    def all_asks(self):
        """Each with a world and a log of its own, one with a history and one without."""
        for log in (LOG, NONE):
            for k in range(len(every_ask(World(CLOCKS, WAYS), log))):
                ask, *given = every_ask(World(CLOCKS, WAYS), list(log))[k]
                yield ask, given

    def test_what_is_handed_in_stays_as_it_was(self):
        for ask, given in self.all_asks():
            kept = [written(thing) for thing in given]
            spoil(answer(ask, given))
            self.assertEqual([written(thing) for thing in given], kept, ask)

    def test_what_is_told_is_the_askers_own(self):
        for ask, given in self.all_asks():
            told = answer(ask, given)
            values = written(told)
            spoil(told)
            self.assertEqual(written(answer(ask, given)), values, ask)

    def test_what_is_changed_later_changes_nothing_told(self):
        for ask, given in self.all_asks():
            told = answer(ask, given)
            values = written(told)
            spoil([thing for thing in given if isinstance(thing, list)])
            self.assertEqual(written(told), values, ask)

    def test_nothing_hangs_on_what_was_asked_ahead(self):
        asks = list(self.all_asks())
        alone = [written(answer(ask, given)) for ask, given in asks]
        for seed in range(3):
            order = list(range(len(asks)))
            chance(seed).shuffle(order)
            for k in order:
                self.assertEqual(written(answer(*asks[k])), alone[k], asks[k][0])


class Objects(Case):
    def test_a_world_changed_behind(self):
        clocks, ways, log = list(CLOCKS), list(WAYS), list(LOG)
        world = World(clocks, ways)
        meeting = Meeting(world)
        for row in log:
            meeting.tell(row)
        told = meeting.when(0)
        spoil([clocks, ways, log])
        self.assertEqual(meeting.log(), LOG)
        self.assertEqual(meeting.when(0), told)
        self.assertEqual(show_world(world), show_world(World(CLOCKS, WAYS)))

    def test_asking_changes_nothing(self):
        """A meeting, a shelf and a shown clock that are asked much tell what those tell that are asked once."""
        world = World(CLOCKS, WAYS)
        asked, quiet = Meeting(world), Meeting(world)
        for row in LOG:
            for hand in range(3):
                spoil([asked.heard(hand), asked.log()])
                asked.when(hand)
                answer(asked.news, (hand, (1, 2)))
                answer(asked.between, (hand, (0, 0), NOUGHT))
            self.assertEqual(asked.tell(row), quiet.tell(row))
        for hand in range(3):
            self.assertEqual((asked.heard(hand), asked.when(hand)), (quiet.heard(hand), quiet.when(hand)))
        shelf, clock = Shelf(), Shown((3, 5), 1, 9, 0, 0)
        for reading in range(9):
            spoil(shelf.lets(reading + 5))
            shelf.free_from("cart")
            clock.right_by()
            shelf.grant("cart", reading, reading + 1)
            clock.put(reading, (reading * 4, None))
        self.assertEqual(shelf.lets(8), [("cart", 9)])
        self.assertTrue(lies_in(clock.show(20), (32 + 3 * 12, None)))

    def test_a_desk_asked_much(self):
        asked, quiet = Desk(), Desk()
        for desk in (asked, quiet):
            desk.say("world " + show_world(World(CLOCKS, WAYS)))
        for row in LOG:
            for question in ("log", "heard 0", "when 1", "but 0 1", "date 0", "till 1 0.1 17", "at 1 99", "news 0 1.2"):
                answer(asked.say, (question,))
            self.assertEqual(asked.say(show_row(row)), quiet.say(show_row(row)))
        for question in ("log", "heard 0", "when 1", "but 0 1", "date 0", "till 1 0.1 17", "out 2 0.0", "at 1 99"):
            self.assertEqual(written(answer(asked.say, (question,))), written(answer(quiet.say, (question,))))


class JustWhatIsKnown(Case):
    def test_it_holds_in_what_came_about_and_is_no_wider_than_the_histories(self):
        for seed in range(15):
            luck = chance(seed)
            world = some_world(luck, luck.randint(1, 4))
            log, lived = lived_log(luck, world, 18)
            meeting = Meeting(world)
            for row in log:
                meeting.tell(row)
            for hand in range(world.hands()):
                heard = meeting.heard(hand)
                some = [NOUGHT] + names(heard)
                x, y = luck.choice(some), luck.choice(some)
                one = meeting.between(hand, x, y)
                self.assertTrue(lies_in(time_of(log, lived, y) - time_of(log, lived, x), one))
                for end, (a, b) in zip(one, ((y, x), (x, y))):
                    times = latest(world, heard, a, b, 1000)
                    self.is_history(world, heard, times)
                    passed = time_of(heard, times, y) - time_of(heard, times, x)
                    self.assertTrue(abs(passed) >= 1000 if end is None else passed == end)


if __name__ == "__main__":
    unittest.main()
