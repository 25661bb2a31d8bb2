"""The interface: the names, arguments and defaults that the document lists."""

import importlib
import inspect
import unittest

FUNCTIONS = {
    "wholes": ["is_whole(thing)", "up_over(top, bottom)", "down_over(top, bottom)"],
    "stretches": [
        "stretch(early, late)", "lies_in(number, one)", "moved(one, least, most)", "met(one, other)", "joined(some)",
        "within(one, other)",
    ],
    "happenings": ["happening(row)"],
    "logs": [
        "names(log)", "check(world, log)", "place(log, name)", "past(world, log, name)", "cut(log, counts)",
        "view(world, log, name)",
    ],
    "roads": ["spans(edges, x)", "road(edges, x, y)"],
    "bounds": ["bounds(world, log)", "broken(world, log, times)"],
    "histories": ["net_of(world, log)", "history(world, log)"],
    "known": [
        "between(world, log, x, y)", "when(world, log, x)", "road(world, log, x, y)",
        "latest(world, log, x, y, far=0)", "surely(world, log, x, y)", "spread(world, log, some)",
    ],
    "liars": [
        "struck(log, liars)", "left(world, log, x, liars)", "choices(hands, asker, many)",
        "when_but(world, log, x, many)", "witness(world, log, x, many, late, far=0)",
    ],
    "dates": [
        "stretch_at(world, log, hand, reading)", "first_sure(world, log, hand, time)",
        "last_sure(world, log, hand, time)", "date(world, log, x)", "is_out(world, log, x, y)",
    ],
    "leases": ["holds(world, log, lease, y)", "hold_till(world, log, lease)", "doubt(world, log, lease, y)"],
    "texts": [
        "show_number(number)", "show_name(name)", "show_stretch(one)", "show_list(numbers)", "show_names(some)",
        "show_row(row)", "show_log(log)", "show_world(world)", "read_number(text)", "read_name(text)",
        "read_stretch(text)", "read_list(text)", "read_names(text)", "read_row(text)", "read_log(text)",
        "read_world(text)",
    ],
}
CLASSES = {
    ("worlds", "World(clocks, ways)"): ["hands()", "clock(hand)", "way(one, other)"],
    ("happenings", "Happening(hand, reading)"): [],
    ("happenings", "Look(hand, reading)"): ["row()", "own_bounds(world, name)"],
    ("happenings", "Sight(hand, reading, early, late)"): ["row()", "own_bounds(world, name)"],
    ("happenings", "Send(hand, reading, to)"): ["row()", "own_bounds(world, name)"],
    ("happenings", "Take(hand, reading, letter)"): ["row()", "own_bounds(world, name)"],
    ("nets", "Net()"): [
        "name(x)", "put(x, y, most)", "names()", "bound(x, y)", "edges()", "times()", "most(x, y)", "road(x, y)",
        "latest(x, y, far=0)",
    ],
    ("meeting", "Meeting(world)"): [
        "tell(row)", "log()", "heard(hand)", "news(hand, letter)", "when(hand)", "between(hand, x, y)",
    ],
    ("leases", "Shelf()"): ["grant(thing, reading, until)", "free_from(thing)", "lets(reading)"],
    ("shown", "Shown(clock, crawl, dash, reading, shown)"): ["put(reading, one)", "show(reading)", "right_by()"],
    ("desk", "Desk()"): ["say(row)"],
}


def written(name, thing):
    return name + str(inspect.signature(thing))


class Interface(unittest.TestCase):
    def test_functions(self):
        for file, rows in FUNCTIONS.items():
            module = importlib.import_module("driftmeet." + file)
            for row in rows:
                name = row.split("(")[0]
                self.assertEqual(written(name, getattr(module, name)), row, file)

    def test_classes(self):
        for (file, made), rows in CLASSES.items():
            name = made.split("(")[0]
            one = getattr(importlib.import_module("driftmeet." + file), name)
            self.assertEqual(written(name, one), made, file)
            for row in rows:
                name = row.split("(")[0]
                method = getattr(one, name)
                told = written(name, method).replace("(self, ", "(").replace("(self)", "()")
                self.assertEqual(told, row, made)


if __name__ == "__main__":
    unittest.main()
