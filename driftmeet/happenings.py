"""Happenings: what a row tells, and the bounds that a happening makes by itself."""

from driftmeet.errors import NoHappening
from driftmeet.wholes import is_whole

# The name that is no happening's: true time nought.
NOUGHT = (-1, 0)


class Happening:
    def __init__(self, hand, reading):
        self.hand = hand
        self.reading = reading


class Look(Happening):
    def __init__(self, hand, reading):
        Happening.__init__(self, hand, reading)

    def row(self):
        return ("look", self.hand, self.reading)

    def own_bounds(self, world, name):
        return []


class Sight(Happening):
    def __init__(self, hand, reading, early, late):
        Happening.__init__(self, hand, reading)
        self.early = early
        self.late = late

    def row(self):
        return ("sight", self.hand, self.reading, self.early, self.late)

    def own_bounds(self, world, name):
        return [(NOUGHT, name, self.late), (name, NOUGHT, -self.early)]


class Send(Happening):
    def __init__(self, hand, reading, to):
        Happening.__init__(self, hand, reading)
        self.to = to

    def row(self):
        return ("send", self.hand, self.reading, self.to)

    def own_bounds(self, world, name):
        # From a letter that is not taken nothing follows; the take makes the bounds.
        return []


class Take(Happening):
    def __init__(self, hand, reading, letter):
        Happening.__init__(self, hand, reading)
        self.letter = letter

    def row(self):
        return ("take", self.hand, self.reading, self.letter)

    def own_bounds(self, world, name):
        way = world.way(self.letter[0], self.hand)
        told = [(name, self.letter, -way[0])]
        if way[1] is not None:
            told.append((self.letter, name, way[1]))
        return told


def are_wholes(things, number):
    return len(things) == number and all([is_whole(thing) for thing in things])


def is_letter(thing):
    return isinstance(thing, tuple) and are_wholes(thing, 2)


def happening(row):
    if not isinstance(row, tuple) or len(row) == 0:
        raise NoHappening("a row is a tuple that begins with a word")
    word = row[0]
    if word == "look" and are_wholes(row[1:], 2):
        return Look(row[1], row[2])
    if word == "sight" and are_wholes(row[1:], 4):
        return Sight(row[1], row[2], row[3], row[4])
    if word == "send" and are_wholes(row[1:], 3):
        return Send(row[1], row[2], row[3])
    if word == "take" and are_wholes(row[1:3], 2) and len(row) == 4 and is_letter(row[3]):
        return Take(row[1], row[2], row[3])
    raise NoHappening("the row tells none of the four kinds")
