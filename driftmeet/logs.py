"""Logs: lists of rows, the names of their happenings, the check, and what is past by letters."""

from driftmeet.errors import Backward, NoHand, NoLetter, NoName, NoStretch, NoWay
from driftmeet.happenings import Send, Sight, Take, happening


def count_on(counts, hand):
    """The name of the hand's happening that comes now; counts goes up by it."""
    ahead = counts.get(hand, 0)
    counts[hand] = ahead + 1
    return (hand, ahead)


def names(log):
    # Only the hands are looked at: a log that was cut may lack a letter's send.
    counts = {}
    told = []
    for row in log:
        told.append(count_on(counts, row[1]))
    return told


class Ahead:
    """What the check has to know of the rows ahead of the one it looks at."""

    def __init__(self):
        self.counts = {}
        self.readings = {}
        self.untaken = {}

    def enter(self, one):
        name = count_on(self.counts, one.hand)
        self.readings[one.hand] = one.reading
        if isinstance(one, Send):
            self.untaken[name] = one.to
        if isinstance(one, Take):
            self.untaken.pop(one.letter)


def refuse_by_clock(world, ahead, one):
    if not world.has_hand(one.hand):
        raise NoHand("the world has no such hand")
    last = ahead.readings.get(one.hand)
    if last is not None and one.reading < last:
        raise Backward(last)


def refuse_by_kind(world, ahead, one):
    if isinstance(one, Sight) and one.early > one.late:
        raise NoStretch("early is above late")
    if isinstance(one, Send) and not world.has_way(one.hand, one.to):
        raise NoWay("no way leads to the hand to which the letter is sent")
    if isinstance(one, Take) and ahead.untaken.get(one.letter) != one.hand:
        raise NoLetter("no such letter waits for this hand")


def check(world, log):
    ahead = Ahead()
    for row in log:
        one = happening(row)
        refuse_by_clock(world, ahead, one)
        refuse_by_kind(world, ahead, one)
        ahead.enter(one)


def place(log, name):
    for where, other in enumerate(names(log)):
        if other == name:
            return where
    raise NoName("no happening of the log has this name")


def last_of(log, hand):
    """The name of the hand's last happening, or None where it has none."""
    mine = [name for name in names(log) if name[0] == hand]
    return mine[-1] if len(mine) > 0 else None


def last_reading(log, hand):
    # A hand's readings never fall, so its greatest one is its last happening's.
    return max([row[2] for row in log if row[1] == hand], default=None)


def count_letter(counts, one):
    """A take that is past brings the send of its letter into the past."""
    if isinstance(one, Take):
        sender = one.letter[0]
        counts[sender] = max(counts[sender], one.letter[1] + 1)


def past(world, log, name):
    where = place(log, name)
    counts = [0] * world.hands()
    counts[name[0]] = name[1] + 1
    # All that is past of a row stands ahead of it in the log, so one walk
    # backwards meets each row when it is settled whether the row is past.
    heads = list(zip(names(log), log))[:where + 1]
    for other, row in reversed(heads):
        if other[1] < counts[other[0]]:
            count_letter(counts, happening(row))
    return counts


def cut(log, counts):
    return [row for name, row in zip(names(log), log) if name[1] < counts[name[0]]]


def view(world, log, name):
    return cut(log, past(world, log, name))
