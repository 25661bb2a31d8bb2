"""Texts: numbers, names, stretches, lists, rows, logs and worlds, written and read again."""

from driftmeet.errors import NoText
from driftmeet.stretches import crossed
from driftmeet.worlds import World

FIGURES = "0123456789"
MOST_FIGURES = 1000
# How many words a row of numbers alone has. A take's last word is a name.
LENGTHS = {"look": 3, "sight": 5, "send": 4}


def show_number(number):
    return str(number)


def show_name(name):
    return show_number(name[0]) + "." + show_number(name[1])


def show_end(end):
    return "" if end is None else show_number(end)


def show_stretch(one):
    return show_end(one[0]) + ".." + show_end(one[1])


def show_list(numbers):
    return " ".join([show_number(number) for number in numbers])


def show_names(some):
    return " ".join([show_name(name) for name in some])


def show_part(part):
    return show_name(part) if isinstance(part, tuple) else show_number(part)


def show_row(row):
    return " ".join([row[0]] + [show_part(part) for part in row[1:]])


def show_log(log):
    return "; ".join([show_row(row) for row in log])


def show_clock(clock):
    return "clock " + show_list([clock[0], clock[1]])


def show_way(one, other, way):
    most = "any" if way[1] is None else show_number(way[1])
    return "way " + show_list([one, other, way[0]]) + " " + most


def show_world(world):
    hands = list(range(world.hands()))
    parts = [show_clock(world.clock(hand)) for hand in hands]
    for one in hands:
        parts.extend([show_way(one, other, world.way(one, other)) for other in hands if world.has_way(one, other)])
    return "; ".join(parts)


def refuse_other(text):
    if not isinstance(text, str):
        raise NoText("this is no text")


def are_figures(text):
    # Python's own isdigit lets by other figures than these, too.
    return 0 < len(text) <= MOST_FIGURES and all([sign in FIGURES for sign in text])


def read_number(text):
    refuse_other(text)
    figures = text[1:] if text.startswith("-") else text
    if not are_figures(figures):
        raise NoText("a number is written by one to a thousand figures")
    if figures[0] == "0" and text != "0":
        raise NoText("a nought stands ahead, or a sign ahead of nought")
    return int(text)


def split_in_two(text, sign):
    refuse_other(text)
    parts = text.split(sign)
    if len(parts) != 2:
        raise NoText("two parts are to be told")
    return parts


def read_name(text):
    parts = split_in_two(text, ".")
    return (read_number(parts[0]), read_number(parts[1]))


def read_end(text):
    return None if text == "" else read_number(text)


def read_stretch(text):
    parts = split_in_two(text, "..")
    early = read_end(parts[0])
    late = read_end(parts[1])
    if crossed(early, late):
        raise NoText("early is above late")
    return (early, late)


def parts_of(text, sign):
    refuse_other(text)
    return [] if text == "" else text.split(sign)


def read_list(text):
    return [read_number(part) for part in parts_of(text, " ")]


def read_names(text):
    return [read_name(part) for part in parts_of(text, " ")]


def read_row(text):
    refuse_other(text)
    words = text.split(" ")
    if words[0] == "take" and len(words) == 4:
        return ("take", read_number(words[1]), read_number(words[2]), read_name(words[3]))
    if len(words) == LENGTHS.get(words[0]):
        return tuple([words[0]] + [read_number(word) for word in words[1:]])
    raise NoText("this is no row of a happening")


def read_log(text):
    return [read_row(part) for part in parts_of(text, "; ")]


def read_clock(words):
    return (read_number(words[1]), read_number(words[2]))


def read_way(words):
    most = None if words[4] == "any" else read_number(words[4])
    return (read_number(words[1]), read_number(words[2]), read_number(words[3]), most)


def read_world(text):
    clocks = []
    ways = []
    for part in parts_of(text, "; "):
        words = part.split(" ")
        if words[0] == "clock" and len(words) == 3 and len(ways) == 0:
            clocks.append(read_clock(words))
        elif words[0] == "way" and len(words) == 5:
            ways.append(read_way(words))
        else:
            raise NoText("this is neither a clock ahead of all ways nor a way")
    if len(clocks) == 0:
        raise NoText("a world has a clock")
    return World(clocks, ways)
