"""Deeds by the time: what a hand tells of it at a reading, when it is sure, and the dates of happenings."""

from driftmeet.errors import Backward, NoDate
from driftmeet.known import when
from driftmeet.logs import last_reading, names, place, view
from driftmeet.wholes import down_over, up_over


def stretch_at(world, log, hand, reading):
    world.refuse_hand(hand)
    last = last_reading(log, hand)
    if last is not None and reading < last:
        raise Backward(last)
    # The look comes last, so a ring is closed by the log's own bounds before those of the look are put.
    looked = log + [("look", hand, reading)]
    return when(world, looked, names(looked)[-1])


def last_stretch(world, log, hand):
    """What the hand tells at its last happening's reading. One without a happening tells nothing, wherever it looks."""
    last = last_reading(log, hand)
    return stretch_at(world, log, hand, 0 if last is None else last)


def first_sure(world, log, hand, time):
    early = last_stretch(world, log, hand)[0]
    if early is None:
        return None
    ticks = up_over(time - early, world.clock(hand)[0])
    return last_reading(log, hand) + max(0, ticks)


def last_sure(world, log, hand, time):
    late = last_stretch(world, log, hand)[1]
    if late is None or late > time:
        return None
    return last_reading(log, hand) + down_over(time - late, world.clock(hand)[1])


def date(world, log, x):
    late = when(world, view(world, log, x), x)[1]
    if late is None:
        raise NoDate("nothing bounds true time at this happening from above")
    return late


def is_out(world, log, x, y):
    # Both names are looked at ahead of what either view holds.
    place(log, y)
    day = date(world, log, x)
    early = when(world, view(world, log, y), y)[0]
    return early is not None and early > day
