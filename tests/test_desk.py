"""The desk: rows told and answered (points 69 and 70)."""

import unittest

from helper import Case, chance, lived_log, some_log, some_world, time_of

from driftmeet.dates import date, first_sure, is_out, last_sure, stretch_at
from driftmeet.desk import Desk
from driftmeet.errors import (
    Backward, DriftError, MoreLie, NoClock, NoDate, NoHand, NoLease, NoLetter, NoName, NoNumber, NoRow, NoStretch,
    NoText,
    NoWay, Ring,
)
from driftmeet.happenings import NOUGHT
from driftmeet.known import latest, road, surely
from driftmeet.leases import hold_till, holds
from driftmeet.liars import when_but
from driftmeet.logs import names
from driftmeet.meeting import Meeting
from driftmeet.texts import (
    read_list, read_log, read_names, read_world, show_log, show_name, show_names, show_number, show_row, show_stretch,
    show_world,
)

WORLD = "clock 2 3; clock 1 1; clock 1 2; way 0 1 5 8; way 1 0 2 any; way 1 2 0 0"
LOG = ["sight 0 10 100 104", "look 1 -4", "send 0 12 1", "take 1 3 0.1", "send 1 3 0", "take 0 19 1.2"]
ASKS = {
    "log": "", "heard": "h", "news": "hx", "when": "h", "between": "hxx", "road": "hxx", "surely": "hxx",
    "latest": "hxxn", "but": "hn", "at": "hn", "first": "hn", "last": "hn", "date": "h", "out": "hx", "holds": "hxn",
    "till": "hxn",
}
OF_THE_LAST = ("but", "date", "out", "holds")


def desk_with(world, rows):
    desk = Desk()
    desk.say("world " + world)
    for row in rows:
        desk.say(row)
    return desk


def asking(word, hand="0", name="-1.0", number="5"):
    return " ".join([word] + [{"h": hand, "x": name, "n": number}[kind] for kind in ASKS[word]])


class DeskCase(Case):
    def says(self, desk, row, text):
        told = desk.say(row)
        self.assertIs(type(told), str)
        self.assertEqual(told, text, row)

    def nothing_changes(self, desk, kind, row):
        log = desk.say("log")
        refusal = self.refused(kind, desk.say, row)
        self.assertEqual(desk.say("log"), log)
        return refusal


class Talk(DeskCase):
    def test_rows_told(self):
        desk = Desk()
        self.says(desk, "world " + WORLD, "ok")
        self.says(desk, "log", "")
        for row, name in zip(LOG, ["0.0", "1.0", "0.1", "1.1", "1.2", "0.2"]):
            self.says(desk, row, name)
        self.says(desk, "log", "; ".join(LOG))

    def test_heard_and_news(self):
        desk = desk_with(WORLD, LOG[:3])
        self.says(desk, "heard 0", "sight 0 10 100 104; send 0 12 1")
        self.says(desk, "heard 1", "look 1 -4")
        self.says(desk, "heard 2", "")
        self.says(desk, "news 1 0.1", "0.0 0.1")
        desk.say(LOG[3])
        self.says(desk, "heard 1", "sight 0 10 100 104; look 1 -4; send 0 12 1; take 1 3 0.1")
        desk.say("send 0 12 1")
        desk.say("send 0 12 1")
        desk.say("take 1 4 0.3")
        self.says(desk, "news 1 0.2", "")

    def test_times(self):
        desk = desk_with(WORLD, LOG)
        self.says(desk, "when 0", "118..131")
        self.says(desk, "when 1", "109..118")
        self.says(desk, "when 2", "..")
        self.says(desk, "between 0 0.1 1.2", "5..8")
        self.says(desk, "between 0 1.2 0.1", "-8..-5")
        self.says(desk, "between 1 0.1 1.1", "5..8")
        self.says(desk, "between 2 -1.0 -1.0", "0..0")

    def test_roads_surely_latest(self):
        desk = desk_with(WORLD, LOG)
        self.says(desk, "road 0 -1.0 1.0", "-1.0 0.0 0.1 1.1 1.0")
        self.says(desk, "road 0 0.0 0.0", "0.0")
        self.says(desk, "surely 0 0.1 1.1", "yes")
        self.says(desk, "surely 0 1.1 0.1", "no")
        self.says(desk, "surely 0 1.1 1.2", "no")
        times = read_list(desk.say("latest 0 -1.0 0.2 0"))
        self.assertEqual(times[5], 131)
        self.assertEqual(len(times), 6)

    def test_none_and_far(self):
        desk = desk_with(WORLD, ["look 0 0", "look 0 4"])
        self.says(desk, "road 0 -1.0 0.0", "none")
        self.assertGreaterEqual(read_list(desk.say("latest 0 -1.0 0.1 700"))[1], 700)
        self.assertLessEqual(read_list(desk.say("latest 0 0.1 -1.0 700"))[1], -700)
        far = "9" * 900
        self.assertGreaterEqual(read_list(desk.say("latest 0 -1.0 0.1 " + far))[1], int(far))
        self.says(desk, "first 0 5", "none")
        self.says(desk, "last 0 5", "none")
        self.says(desk, "at 0 4", "..")
        self.says(desk, "at 2 -9", "..")
        self.says(desk_with(WORLD, []), "latest 0 -1.0 -1.0 5", "")

    def test_but(self):
        desk = desk_with(WORLD, LOG)
        self.says(desk, "but 0 0", "118..131")
        self.says(desk, "but 0 1", "118..131")
        self.says(desk, "but 1 0", "109..118")
        self.says(desk, "but 1 1", "..")

    def test_dates(self):
        desk = desk_with(WORLD, LOG[:4])
        self.says(desk, "at 0 12", "104..110")
        self.says(desk, "at 0 13", "106..113")
        self.says(desk, "first 0 105", "13")
        self.says(desk, "last 0 112", "12")
        self.says(desk, "last 0 109", "none")
        self.says(desk, "date 0", "110")
        self.says(desk, "date 1", "118")
        self.says(desk, "out 1 0.0", "yes")
        self.says(desk, "out 1 0.1", "no")
        self.says(desk, "out 1 1.1", "no")

    def test_leases(self):
        desk = desk_with(WORLD, LOG[:4])
        # The letter takes 8 at most, the lender's clock 2 a tick at least.
        self.says(desk, "holds 1 0.1 17", "yes")
        self.says(desk, "holds 1 0.1 16", "no")
        self.says(desk, "till 1 0.1 17", "4")
        self.says(desk, "till 1 0.1 16", "none")
        self.says(desk, "till 1 0.1 20", "10")
        self.says(desk, "till 0 0.1 20", "none")
        self.says(desk, "holds 0 0.1 20", "no")

    def test_a_new_world_forgets_the_one_ahead(self):
        desk = desk_with(WORLD, LOG)
        self.says(desk, "world clock 1 1", "ok")
        self.says(desk, "log", "")
        self.says(desk, "heard 0", "")
        self.says(desk, "look 0 3", "0.0")
        self.nothing_changes(desk, NoHand, "when 1")
        self.says(desk, "world " + WORLD, "ok")
        self.says(desk, "log", "")

    def test_two_desks_are_two(self):
        one, other = desk_with(WORLD, LOG), Desk()
        self.refused(NoRow, other.say, "log")
        other.say("world clock 1 1")
        self.says(one, "log", "; ".join(LOG))

    def test_numbers_of_a_thousand_figures(self):
        figures = "9" * 1000
        desk = desk_with("clock 1 1", [f"sight 0 -{figures} -{figures} {figures}"])
        self.says(desk, "log", f"sight 0 -{figures} -{figures} {figures}")
        self.says(desk, "when 0", f"-{figures}..{figures}")
        self.says(desk, "first 0 0", "0")
        self.refused(NoRow, desk.say, f"look 0 {figures}9")


class NoRows(DeskCase):
    def test_what_is_no_text(self):
        for desk in (Desk(), desk_with(WORLD, LOG)):
            for row in (None, 7, True, b"log", ["log"], ("look", 0, 12), {"log": 1}):
                self.refused(NoRow, desk.say, row)

    def test_what_is_none_of_the_rows(self):
        desk = desk_with(WORLD, LOG)
        for row in ("", " ", "world", "World clock 1 1", "WORLD clock 1 1", " world clock 1 1", "log ", " log", "Log",
                    "logs",
                    "log 0", "ok", "none", "yes", "clock 1 1", "way 0 1 5 6", "spread 0 0.0", "latest 0 0.0 0.1",
                    "say log",
                    "look 0 99; look 0 100", "log; log", "heard\t0", "heard 0\n", "when  0", "doubt 1 0.1 16", "\nlog",
                    "world\tclock 1 1", "worldclock 1 1", "worlds clock 1 1"):
            with self.subTest(row):
                self.nothing_changes(desk, NoRow, row)

    def test_words_too_many_and_too_few(self):
        desk = desk_with(WORLD, LOG)
        for word in ASKS:
            row = asking(word)
            for wrong in (row + " 1", row + " 1.0", row + " ", " " + row, row.replace(" ", "  ", 1), row.upper()):
                if wrong != row:
                    self.nothing_changes(desk, NoRow, wrong)
            if ASKS[word]:
                self.nothing_changes(desk, NoRow, word)
                self.nothing_changes(desk, NoRow, row.rpartition(" ")[0])
        for row in ("look 0", "look 0 99 1", "sight 0 99 1", "send 0 99", "take 0 99", "take 0 99 1.1 1", "Look 0 99",
                    "look  0 99", "look 0 99 ", "look 0 1.2", "take 0 99 3", "send 0 99 1.0"):
            self.nothing_changes(desk, NoRow, row)

    def test_a_number_or_name_not_written_so(self):
        desk = desk_with(WORLD, LOG)
        no_numbers = ["-0", "01", "+1", "1_0", "x", "\u0663", "9" * 1001, "1.0", "0.0", "", "1..2", "any", "-"]
        no_names = ["0", "0.", ".0", "0.00", "-0.0", "0.0.0", "0,0", "x.y", "0.-0", "0..0", "", "1" * 1001 + ".0"]
        for word in ASKS:
            for number in no_numbers:
                if "h" in ASKS[word]:
                    self.nothing_changes(desk, NoRow, asking(word, hand=number))
                if "n" in ASKS[word]:
                    self.nothing_changes(desk, NoRow, asking(word, number=number))
            for name in no_names:
                if "x" in ASKS[word]:
                    self.nothing_changes(desk, NoRow, asking(word, name=name))
        for number in no_numbers:
            for row in (f"look {number} 99", f"look 0 {number}", f"sight 0 99 {number} 5", f"sight 0 99 1 {number}",
                        f"send 0 99 {number}", f"take 0 {number} 1.2"):
                self.nothing_changes(desk, NoRow, row)
        for name in no_names:
            self.nothing_changes(desk, NoRow, "take 0 99 " + name)

    def test_no_row_goes_ahead_of_no_hand(self):
        desk = desk_with(WORLD, LOG)
        self.nothing_changes(desk, NoRow, "between 9 0.0 1")
        self.nothing_changes(desk, NoRow, "look 9 x")
        self.nothing_changes(desk, NoRow, "but 9 -0")

    def test_as_long_as_no_world_stands(self):
        desk = Desk()
        for row in [asking(word) for word in ASKS] + LOG + ["", "world", "x"]:
            self.refused(NoRow, desk.say, row)
        self.refused(NoText, desk.say, "world ")
        self.refused(NoClock, desk.say, "world clock 0 1")
        for row in [asking(word) for word in ASKS] + LOG:
            self.refused(NoRow, desk.say, row)
        self.says(desk, "world " + WORLD, "ok")
        self.says(desk, "log", "")


class NoWorlds(DeskCase):
    def test_a_text_that_is_no_worlds(self):
        desk = desk_with(WORLD, LOG)
        for text in ("", " ", " clock 1 1", "clock 1 1 ", "clock 1", "way 0 1 5 any", "clock 1 1;clock 1 1", "log", "0",
                     "clock 1 x", "clock 1 1; way 0 1 any 5", "clock -0 1", "clock 1 1; look 0 1", "Clock 1 1"):
            self.nothing_changes(desk, NoText, "world " + text)

    def test_refused_as_its_making_refuses(self):
        desk = desk_with(WORLD, LOG)
        for kind, text in ((NoHand, "; ".join(["clock 1 1"] * 7)), (NoClock, "clock 2 1"),
                           (NoHand, "clock 1 1; way 0 1 0 0"),
                           (NoWay, "clock 1 1; clock 1 1; way 0 1 2 1")):
            self.nothing_changes(desk, kind, "world " + text)
        self.says(desk, "when 0", "118..131")


class Refused(DeskCase):
    def test_rows_told(self):
        desk = desk_with(WORLD, LOG)
        for kind, row in ((NoHand, "look 3 0"), (NoHand, "look -1 0"), (NoStretch, "sight 0 19 5 4"),
                          (NoWay, "send 0 19 2"),
                          (NoWay, "send 0 19 7"), (NoLetter, "take 0 19 1.2"), (NoLetter, "take 1 3 -1.0")):
            self.nothing_changes(desk, kind, row)
        self.assertEqual(self.nothing_changes(desk, Backward, "look 0 18").last, 19)

    def test_no_hand_first_of_all(self):
        for desk in (desk_with(WORLD, []), desk_with(WORLD, LOG), desk_with(WORLD, ["sight 0 0 1 1", "sight 0 0 2 2"])):
            for word in ASKS:
                if word != "log":
                    for hand in ("3", "-1", "99"):
                        for name in ("-1.0", "7.7", "0.0"):
                            self.nothing_changes(desk, NoHand, asking(word, hand=hand, name=name, number="-5"))

    def test_no_name_where_the_hand_has_no_happening(self):
        desk = desk_with(WORLD, LOG)
        for word in OF_THE_LAST:
            for name in ("0.1", "-1.0", "7.7"):
                for number in ("5", "-5"):
                    self.nothing_changes(desk, NoName, asking(word, hand="2", name=name, number=number))
        self.says(desk, "when 2", "..")
        self.says(desk, "heard 2", "")

    def test_by_their_stages(self):
        desk = desk_with(WORLD, LOG)
        for kind, row in ((NoLetter, "news 0 1.2"), (NoLetter, "news 0 -1.0"), (NoName, "between 1 0.2 0.0"),
                          (NoName, "road 1 0.0 0.2"), (NoName, "surely 2 -1.0 0.0"), (NoName, "latest 2 0.0 -1.0 5"),
                          (NoNumber, "but 0 -1"), (Backward, "at 0 18"), (NoName, "out 1 0.2"), (NoName, "out 1 -1.0"),
                          (NoLease, "holds 1 1.0 99"), (NoLease, "holds 1 0.2 99"), (NoLease, "till 2 0.1 99"),
                          (NoLease, "holds 1 0.1 11"), (NoLease, "till 1 9.9 5")):
            with self.subTest(row):
                self.nothing_changes(desk, kind, row)
        self.nothing_changes(desk_with(WORLD, ["look 0 0"]), NoDate, "date 0")
        self.nothing_changes(desk_with(WORLD, ["look 0 0"]), NoDate, "out 0 0.0")

    def test_rings(self):
        rows = ["sight 0 0 1 1", "sight 0 0 2 2", "send 0 1 1", "look 1 0", "sight 1 0 5 5"]
        desk = desk_with(WORLD, rows)
        log = read_log("; ".join(rows[:3]))
        for word in ("when", "between", "road", "surely", "latest", "at", "first", "last", "date"):
            ring = self.nothing_changes(desk, Ring, asking(word, hand="0", name="-1.0")).ring
            self.goes_round(read_world(WORLD), log, ring)
        for row in ("out 0 0.1", "holds 0 0.2 9"):
            self.goes_round(read_world(WORLD), log, self.nothing_changes(desk, Ring, row).ring)
        rings = self.nothing_changes(desk, MoreLie, "but 0 1").rings
        self.assertEqual([liars for liars, _ in rings], [[1], [2]])
        # Hand 1 has not heard of it, and to hold till a reading only the lessee's view is looked at.
        self.says(desk, "when 1", "5..5")
        self.says(desk, "till 0 0.2 9", "none")
        self.says(desk, "heard 0", "; ".join(rows[:3]))


def answer_by_stage(world, meeting, word, hand, names_told, number):
    """What the row is answered with, by the stage that it belongs to; the free ones are told as they are."""
    heard = meeting.heard(hand)
    own = [name for name in names(heard) if name[0] == hand]
    x, y = names_told
    if word in OF_THE_LAST and not own:
        raise NoName
    show_truth = {True: "yes", False: "no"}.get
    if word == "heard":
        return show_log(heard)
    if word == "news":
        return show_names(meeting.news(hand, x))
    if word in ("when", "between"):
        return show_stretch(meeting.when(hand) if word == "when" else meeting.between(hand, x, y))
    if word == "road":
        told = road(world, heard, x, y)
        return "none" if told is None else show_names(told)
    if word == "surely":
        return show_truth(surely(world, heard, x, y))
    if word == "latest":
        return " ".join(show_number(time) for time in latest(world, heard, x, y, number))
    if word == "but":
        return show_stretch(when_but(world, heard, own[-1], number))
    if word == "at":
        return show_stretch(stretch_at(world, heard, hand, number))
    if word == "date":
        return show_number(date(world, heard, own[-1]))
    if word == "out":
        return show_truth(is_out(world, heard, x, own[-1]))
    if word == "holds":
        return show_truth(holds(world, heard, (x, number), own[-1]))
    if word == "till":
        told = hold_till(world, heard, (x, number))
    else:
        told = {"first": first_sure, "last": last_sure}[word](world, heard, hand, number)
    return "none" if told is None else show_number(told)


class ByStages(DeskCase):
    def test_random_rows(self):
        seen = {}
        for seed in range(40):
            luck = chance(seed)
            world = some_world(luck, luck.randint(1, 3))
            log = some_log(luck, world, 12) if seed % 2 else lived_log(luck, world, 12)[0]
            desk, meeting = Desk(), Meeting(world)
            desk.say("world " + show_world(world))
            for row in log:
                self.says(desk, show_row(row), show_name(meeting.tell(row)))
            some = names(log) + [NOUGHT, (0, 99)]
            for word in [word for word in ASKS if word != "log"] * 3:
                hand, number = luck.randrange(-1, world.hands() + 1), luck.randint(-2, 30)
                x, y = luck.choice(some), luck.choice(some)
                given = {"h": [hand], "x": [x, y], "n": [number]}
                words = [word]
                for kind in ASKS[word]:
                    one = given[kind].pop(0)
                    words.append(show_name(one) if kind == "x" else show_number(one))
                try:
                    told = answer_by_stage(world, meeting, word, hand, (x, y), number)
                except DriftError as refusal:
                    self.nothing_changes(desk, type(refusal), " ".join(words))
                    seen[(word, type(refusal))] = True
                else:
                    self.says(desk, " ".join(words), told)
                    seen[(word, told if told in ("yes", "no", "none") else "told")] = True
        for word in ASKS:
            if word != "log":
                self.assertIn((word, NoHand), seen)
                self.assertTrue([True for one, answer in seen if one == word and isinstance(answer, str)], word)

    def test_the_free_answers_are_right(self):
        for seed in range(20):
            luck = chance(seed)
            world = some_world(luck, luck.randint(1, 3))
            log, _ = lived_log(luck, world, 12)
            desk = desk_with(show_world(world), [show_row(row) for row in log])
            hand = log[-1][1]
            heard = read_log(desk.say(f"heard {hand}"))
            x, y = luck.choice(names(heard)), luck.choice(names(heard) + [NOUGHT])
            asked = f"{hand} {show_name(x)} {show_name(y)}"
            times = read_list(desk.say(f"latest {asked} 50"))
            self.is_history(world, heard, times)
            late = desk.say(f"between {asked}").partition("..")[2]
            passed = time_of(heard, times, y) - time_of(heard, times, x)
            way = desk.say(f"road {asked}")
            if late == "":
                self.assertEqual(way, "none")
                self.assertGreaterEqual(passed, 50)
            else:
                self.assertEqual(passed, int(late))
                self.assertEqual((read_names(way)[0], read_names(way)[-1]), (x, y))


if __name__ == "__main__":
    unittest.main()
