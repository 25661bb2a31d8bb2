"""Hands that lie: logs struck of them, who they may be, and what is known of the time all the same."""

from driftmeet.errors import MoreLie, NoHand, NoNumber, Ring
from driftmeet.happenings import NOUGHT, Take, happening
from driftmeet.known import latest, when
from driftmeet.logs import place, view
from driftmeet.stretches import joined
from driftmeet.worlds import MOST_HANDS


def without_letter(row, liars):
    """The row, or a look where it takes a letter of one of the liars."""
    one = happening(row)
    if isinstance(one, Take) and one.letter[0] in liars:
        return ("look", one.hand, one.reading)
    return row


def struck(log, liars):
    return [without_letter(row, liars) for row in log if row[1] not in liars]


def left(world, log, x, liars):
    return view(world, struck(log, liars), x)


def grown_lists(some, others):
    """Each list with one hand more behind it that is above its last one, in order where the lists are."""
    told = []
    for one in some:
        told.extend([one + [hand] for hand in others if len(one) == 0 or hand > one[-1]])
    return told


def choices(hands, asker, many):
    if not 0 <= asker < hands <= MOST_HANDS:
        raise NoHand("there are one to six hands, and one of them asks")
    if many < 0:
        raise NoNumber("many is below nought")
    others = [hand for hand in range(hands) if hand != asker]
    told = [[]]
    for step in range(min(many, len(others))):
        told = grown_lists(told, others)
    return told


def fitting(world, log, x, many):
    """(liars, what is left at x, the stretch of x known of that) for each choice that leaves a history."""
    place(log, x)
    fits = []
    rings = []
    for liars in choices(world.hands(), x[0], many):
        rest = left(world, log, x, liars)
        try:
            fits.append((liars, rest, when(world, rest, x)))
        except Ring as refusal:
            rings.append((liars, refusal.ring))
    if len(fits) == 0:
        raise MoreLie(rings)
    return fits


def joined_of(fits):
    return joined([one for liars, rest, one in fits])


def when_but(world, log, x, many):
    return joined_of(fitting(world, log, x, many))


def witness(world, log, x, many, late, far=0):
    fits = fitting(world, log, x, many)
    side = 1 if late else 0
    end = joined_of(fits)[side]
    having = [fit for fit in fits if fit[2][side] == end]
    liars = having[0][0]
    rest = having[0][1]
    if late:
        return (liars, latest(world, rest, NOUGHT, x, far))
    # As early as may be is the latest of NOUGHT behind x: all signs are turned.
    return (liars, latest(world, rest, x, NOUGHT, -far))
