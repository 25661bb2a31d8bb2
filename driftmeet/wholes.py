"""Whole numbers: which things are one, and one over another, rounded up or down."""

from driftmeet.errors import NoNumber


def is_whole(thing):
    # To Python a truth is an int, too.
    return isinstance(thing, int) and not isinstance(thing, bool)


def refuse_low(bottom):
    if bottom < 1:
        raise NoNumber("the bottom is below 1")


def up_over(top, bottom):
    refuse_low(bottom)
    # The sign is turned twice, since // itself goes down.
    return -((-top) // bottom)


def down_over(top, bottom):
    refuse_low(bottom)
    return top // bottom
