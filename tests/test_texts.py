"""Texts: what is written and read again (points 64 to 68)."""

import unittest

from helper import MANY, Case, chance, lived_log, some_log, some_world

from driftmeet import texts
from driftmeet.errors import NoClock, NoHand, NoText, NoWay
from driftmeet.happenings import NOUGHT
from driftmeet.texts import (
    read_list, read_log, read_name, read_names, read_number, read_row, read_stretch, read_world, show_list, show_log,
    show_name, show_names, show_number, show_row, show_stretch, show_world,
)
from driftmeet.worlds import World

THOUSAND = 10 ** 1000 - 1
NO_TEXTS = [None, True, 7, 0, b"7", ["7"], ("7",), {"7": 7}, 7.0, (0, 1)]
# What is no number, wherever a number is to stand.
NO_NUMBERS = [
    "-0", "01", "00", "-01", "+1", "+0", "1_000", "_1", "--1", "-", "- 1", "1-", "1.0", "0x1", "1e3", "one", "\u0663",
    "\u00b2", "\uff11", "1\u0660", "1" * 1001, "-" + "9" * 1001, "1\n", "\t1", "\u22121", "1,000", "1;",
]
BLANKS = ["", " ", " 1", "1 ", "1  2"]


class TextCase(Case):
    def both(self, show, read, thing, text):
        self.assertEqual(show(thing), text)
        self.assertIs(type(show(thing)), str)
        again = read(text)
        self.assertEqual(again, thing)
        self.assertIs(type(again), type(thing))

    def no_texts(self, read, *some):
        for text in some:
            with self.subTest(read=read, text=text):
                self.refused(NoText, read, text)


class Numbers(TextCase):
    def test_written_and_read(self):
        for number, text in ((0, "0"), (7, "7"), (10, "10"), (-1, "-1"), (-90, "-90"), (1234567890, "1234567890")):
            self.both(show_number, read_number, number, text)

    def test_a_thousand_figures(self):
        self.both(show_number, read_number, THOUSAND, "9" * 1000)
        self.both(show_number, read_number, -THOUSAND, "-" + "9" * 1000)
        self.both(show_number, read_number, 10 ** 999, "1" + "0" * 999)
        self.both(show_number, read_number, MANY, "1" + "0" * 198 + "7")
        self.no_texts(read_number, "1" + "0" * 1000, "-1" + "0" * 1000, "0" * 1001, "9" * 5000, "9" * 100000)

    def test_refused(self):
        self.no_texts(read_number, *NO_NUMBERS, *BLANKS, *NO_TEXTS)

    def test_small_texts_by_their_words(self):
        """Of all short texts of these signs just those are read that a number is written as."""
        signs = "-019 .+"
        some = [""] + list(signs) + [a + b for a in signs for b in signs]
        some += [one + c for one in some if len(one) == 2 for c in signs]
        read = {}
        for text in some:
            try:
                read[text] = read_number(text)
            except NoText:
                pass
        written = {str(number): number for number in range(-99, 1000)}
        self.assertEqual(read, {text: number for text, number in written.items() if text in some})


class Names(TextCase):
    def test_written_and_read(self):
        for name, text in (((2, 0), "2.0"), (NOUGHT, "-1.0"), ((0, -3), "0.-3"), ((-5, -7), "-5.-7"),
                           ((10, 20), "10.20"),
                           ((THOUSAND, -THOUSAND), "9" * 1000 + ".-" + "9" * 1000)):
            self.both(show_name, read_name, name, text)

    def test_refused(self):
        self.no_texts(read_name, "", ".", "1.", ".1", "1", "1..2", "1.2.3", "1,2", "1 .2", "1. 2", " 1.2", "1.2 ",
                      "a.b")
        self.no_texts(read_name, *[text + ".1" for text in NO_NUMBERS if text != "1.0"], *NO_TEXTS)
        self.no_texts(read_name, *["1." + text for text in NO_NUMBERS])


class Stretches(TextCase):
    def test_written_and_read(self):
        for one, text in (((3, 9), "3..9"), ((-4, None), "-4.."), ((None, 9), "..9"), ((None, None), ".."),
                          ((5, 5), "5..5"), ((-9, -3), "-9..-3"), ((None, -3), "..-3"), ((0, None), "0.."),
                          ((-THOUSAND, THOUSAND), "-" + "9" * 1000 + ".." + "9" * 1000)):
            self.both(show_stretch, read_stretch, one, text)

    def test_early_above_late(self):
        self.no_texts(read_stretch, "9..3", "0..-1", "-3..-9", "9" * 1000 + "..1")

    def test_refused(self):
        self.no_texts(read_stretch, "", ".", "...", "....", "3...9", "3.9", "3", "3....9", "3..9..12", "..9..", "....9")
        self.no_texts(read_stretch, " ..", ".. ", "3 ..9", "3.. 9", "3..9 ", " 3..9", "3 9", "3. .9", "None..3",
                      *NO_TEXTS)
        self.no_texts(read_stretch, *[text + "..9" for text in NO_NUMBERS])
        self.no_texts(read_stretch, *["-99.." + text for text in NO_NUMBERS])
        self.no_texts(read_stretch, *["3.." + text for text in BLANKS if text != ""])


class Lists(TextCase):
    def test_numbers(self):
        for numbers, text in (([], ""), ([0], "0"), ([3, -4, 3], "3 -4 3"),
                              ([THOUSAND] * 2, "9" * 1000 + " " + "9" * 1000)):
            self.both(show_list, read_list, numbers, text)

    def test_names(self):
        for some, text in (([], ""), ([NOUGHT], "-1.0"), ([(0, 1), (2, 0), (0, 1)], "0.1 2.0 0.1")):
            self.both(show_names, read_names, some, text)

    def test_refused(self):
        self.no_texts(read_list, " ", "  ", " 1", "1 ", "1  2", "1, 2", "1;2", "1\t2", "1\n2", "[1]", "1.0", "1 2.0",
                      *NO_TEXTS)
        self.no_texts(read_list, *[text for text in NO_NUMBERS if text != "- 1"], *["5 " + text for text in NO_NUMBERS])
        self.no_texts(read_names, " ", " 1.0", "1.0 ", "1.0  2.0", "1.0 2", "1 2", "1", "1.0, 2.0", "1.0;2.0",
                      *NO_TEXTS)
        self.no_texts(read_names, *["5.5 " + text for text in NO_NUMBERS if text != "1.0"])

    def test_the_list_is_the_askers_own(self):
        for read, text in ((read_list, ""), (read_list, "1 2"), (read_names, ""), (read_names, "1.0"), (read_log, "")):
            kept = list(read(text))
            read(text).append("more")
            self.assertEqual(read(text), kept)


class Rows(TextCase):
    ROWS = [
        (("look", 0, 12), "look 0 12"), (("sight", 1, -3, 40, 55), "sight 1 -3 40 55"),
        (("send", 0, 12, 1), "send 0 12 1"),
        (("take", 1, 7, (0, 3)), "take 1 7 0.3"), (("take", -9, -7, NOUGHT), "take -9 -7 -1.0"),
        (("sight", 9, 0, 5, 4), "sight 9 0 5 4"), (("send", 3, 0, 3), "send 3 0 3"),
        (("look", THOUSAND, -THOUSAND), "look " + "9" * 1000 + " -" + "9" * 1000),
        (("take", 0, 0, (9, 9)), "take 0 0 9.9"),
    ]

    def test_each_kind(self):
        for row, text in self.ROWS:
            self.both(show_row, read_row, row, text)

    def test_parts_too_many_or_too_few(self):
        for _, text in self.ROWS:
            self.no_texts(read_row, text + " 1", text + " 1.0", text.rpartition(" ")[0], text.split(" ")[0], text + " ")

    def test_a_letter_for_a_number_and_a_number_for_a_letter(self):
        self.no_texts(read_row, "take 1 7 3", "take 1 7 0 3", "take 0.3 7 0.3", "take 1 0.3 7", "look 0 1.2",
                      "look 0.1 2")
        self.no_texts(read_row, "send 0 12 1.0", "sight 1 2 3 4.0", "sight 1 2 3.0 4")

    def test_words_and_blanks(self):
        self.no_texts(read_row, "", " ", "Look 0 12", "LOOK 0 12", "looks 0 12", "0 12", "look  0 12", " look 0 12",
                      "glance 0 1")
        self.no_texts(read_row, "look\t0 12", "look 0 12\n", "look 0,12", "look,0 12", "Take 1 7 0.3", "world 0 12",
                      *NO_TEXTS)
        self.no_texts(read_row, "look 0 12;", "look 0 12; look 0 13", ("look", 0, 12))

    def test_no_numbers_in_each_place(self):
        for text in NO_NUMBERS + ["", " "]:
            for row in ("look {} 1", "look 1 {}", "sight {} 1 1 1", "sight 1 {} 1 1", "sight 1 1 {} 1",
                        "sight 1 1 1 {}",
                        "send {} 1 1", "send 1 {} 1", "send 1 1 {}", "take {} 1 1.1", "take 1 {} 1.1"):
                self.no_texts(read_row, row.format(text))
            if text != "1.0":
                self.no_texts(read_row, "take 1 1 " + text, "take 1 1 1." + text, "take 1 1 " + text + ".1")


class Logs(TextCase):
    def test_written_and_read(self):
        self.both(show_log, read_log, [], "")
        self.both(show_log, read_log, [("look", 0, 12)], "look 0 12")
        rows = [row for row, _ in Rows.ROWS]
        self.both(show_log, read_log, rows, "; ".join(text for _, text in Rows.ROWS))

    def test_what_the_check_would_not_let_by(self):
        log = [("look", 0, 5), ("look", 0, 4), ("take", 7, 0, NOUGHT), ("sight", 0, 9, 3, 2), ("send", 0, 0, 0)]
        self.both(show_log, read_log, log, "look 0 5; look 0 4; take 7 0 -1.0; sight 0 9 3 2; send 0 0 0")

    def test_gaps(self):
        self.no_texts(read_log, "look 0 1;look 0 2", "look 0 1;  look 0 2", "look 0 1 ; look 0 2", "; look 0 1",
                      "look 0 1; ",
                      "look 0 1;", ";", "; ", " ", "look 0 1; ; look 0 2", "look 0 1;; look 0 2", "look 0 1, look 0 2",
                      "look 0 1\nlook 0 2", ";look 0 1", "look 0 1;\nlook 0 2", "look 0 1; look 0 2 ", " look 0 1")

    def test_a_row_that_is_none(self):
        self.no_texts(read_log, "look 0 1; glance 0 2", "look 0; look 0 1", "look 0 1; LOOK 0 2",
                      "take 0 1 2; look 0 1", *NO_TEXTS)

    def test_random_ones(self):
        for seed in range(30):
            luck = chance(seed)
            world = some_world(luck, luck.randint(1, 6))
            for log in (some_log(luck, world, 20), lived_log(luck, world, 20)[0]):
                self.assertEqual(read_log(show_log(log)), log)
                for row in log:
                    self.assertEqual(read_row(show_row(row)), row)


def told(world):
    hands = range(world.hands())
    ways = {}
    for one in hands:
        for other in hands:
            try:
                ways[(one, other)] = world.way(one, other)
            except (NoHand, NoWay):
                pass
    return [world.clock(hand) for hand in hands], ways


class Worlds(TextCase):
    def test_written(self):
        self.assertEqual(show_world(World([(2, 3), (1, 1)], [(0, 1, 5, None)])), "clock 2 3; clock 1 1; way 0 1 5 any")
        self.assertEqual(show_world(World([(1, 1)], [])), "clock 1 1")
        self.assertEqual(show_world(World([(THOUSAND, THOUSAND)], [])), "clock " + "9" * 1000 + " " + "9" * 1000)

    def test_written_sorted(self):
        ways = [(2, 0, 1, 1), (1, 2, 0, None), (0, 2, 3, 4), (1, 0, 7, 8), (0, 1, 0, 0)]
        text = "clock 1 1; clock 1 1; clock 1 1; way 0 1 0 0; way 0 2 3 4; way 1 0 7 8; way 1 2 0 any; way 2 0 1 1"
        self.assertEqual(show_world(World([(1, 1)] * 3, ways)), text)

    def test_read(self):
        world = read_world("clock 2 3; clock 1 1; way 0 1 5 any")
        self.assertIs(type(world), World)
        self.assertEqual(told(world), ([(2, 3), (1, 1)], {(0, 1): (5, None)}))
        self.assertEqual(told(read_world("clock 4 7")), ([(4, 7)], {}))

    def test_read_with_the_ways_in_any_order(self):
        world = read_world("clock 1 1; clock 1 2; clock 1 3; way 2 0 1 1; way 0 1 0 any; way 0 2 0 0")
        ways = {(2, 0): (1, 1), (0, 1): (0, None), (0, 2): (0, 0)}
        self.assertEqual(told(world), ([(1, 1), (1, 2), (1, 3)], ways))

    def test_random_ones(self):
        for seed in range(40):
            luck = chance(seed)
            world = some_world(luck, luck.randint(1, 6))
            self.assertEqual(told(read_world(show_world(world))), told(world))

    def test_no_clock_and_clocks_behind_ways(self):
        self.no_texts(read_world, "", "way 0 1 5 any", "way 0 1 5 6; way 1 0 5 6",
                      "way 0 1 5 any; clock 1 1; clock 1 1", "clock 1 1; way 0 1 5 any; clock 1 1",
                      "clock 1 1; clock 1 1; way 0 1 5 6; clock 1 1; way 1 0 5 6")

    def test_parts_too_many_or_too_few(self):
        self.no_texts(read_world, "clock", "clock 1", "clock 1 1 1", "clock ", "clock 1 ", "clock 1 1 ", " clock 1 1")
        begun = "clock 1 1; clock 1 1; "
        self.no_texts(read_world, begun, begun + "way", begun + "way 0 1", begun + "way 0 1 5", begun + "way 0 1 5 6 7",
                      begun + "way 0 1 5 any any", begun + "way 0 1 5 6 ", begun + "ways 0 1 5 6", begun + "look 0 1")

    def test_no_numbers_and_the_word_any_elsewhere(self):
        begun = "clock 1 1; clock 1 1; "
        self.no_texts(read_world, begun + "way 0 1 any any", begun + "way 0 any 5 6", begun + "way any 1 5 6",
                      begun + "way 0 1 5 ANY", begun + "way 0 1 5 Any", begun + "way 0 1 5 none", begun + "way 0 1 5 ",
                      "clock 1 any", "clock any 1", "clock any any", "Clock 1 1", "CLOCK 1 1", begun + "Way 0 1 5 6")
        for text in NO_NUMBERS:
            self.no_texts(read_world, f"clock {text} 99", f"clock 1 {text}", begun + f"way {text} 1 5 6",
                          begun + f"way 0 {text} 5 6", begun + f"way 0 1 {text} 6", begun + f"way 0 1 0 {text}")

    def test_gaps(self):
        self.no_texts(read_world, "clock 1 1;clock 1 1", "clock 1 1;  clock 1 1", "clock 1 1; ", "; clock 1 1",
                      "clock 1 1;",
                      "clock  1 1", "clock 1 1 ; clock 1 1", "clock 1 1, clock 1 1", "clock 1 1\nclock 1 1", ";", " ",
                      *NO_TEXTS)

    def test_refused_as_the_worlds_making_refuses(self):
        begun = "clock 1 1; clock 1 1; "
        for kind, text in (
            (NoHand, "; ".join(["clock 1 1"] * 7)), (NoClock, "clock 0 1"), (NoClock, "clock -1 1"),
            (NoClock, "clock 3 2"),
            (NoHand, begun + "way 0 2 1 1"), (NoHand, begun + "way -1 0 1 1"), (NoHand, begun + "way 1 1 1 1"),
            (NoWay, begun + "way 0 1 1 1; way 0 1 1 1"), (NoWay, begun + "way 0 1 -1 1"),
            (NoWay, begun + "way 0 1 2 1"),
            (NoWay, begun + "way 0 1 -1 any"), (NoHand, "clock 1 1; way 0 1 5 any"),
            (NoClock, "clock 0 1; clock 1 1; way 0 9 1 1"), (NoHand, "; ".join(["clock 0 0"] * 7)),
        ):
            with self.subTest(text):
                self.refused(kind, read_world, text)

    def test_no_text_goes_ahead_of_what_the_making_refuses(self):
        self.no_texts(read_world, "clock 0 1; way", "clock 0 1; way 0 0 1 x", "; ".join(["clock 1 1"] * 7) + "; ")


class Whole(TextCase):
    def test_what_is_no_text(self):
        for name in ("number", "name", "stretch", "list", "names", "row", "log", "world"):
            self.no_texts(getattr(texts, "read_" + name), *NO_TEXTS)

    def test_handed_in_stays_as_it_was(self):
        numbers, some, log = [1, 2], [NOUGHT, (0, 1)], [("take", 0, 1, (1, 0)), ("look", 0, 2)]
        show_list(numbers)
        show_names(some)
        show_log(log)
        self.assertEqual((numbers, some), ([1, 2], [NOUGHT, (0, 1)]))
        self.assertEqual(log, [("take", 0, 1, (1, 0)), ("look", 0, 2)])


if __name__ == "__main__":
    unittest.main()
