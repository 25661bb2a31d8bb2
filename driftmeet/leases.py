"""Leases: what a lender lets until a reading of its own clock, and how long the lessee may be sure to hold it."""

from driftmeet.errors import Backward, NoLease, StillLet
from driftmeet.happenings import Send, happening
from driftmeet.histories import net_of
from driftmeet.known import between, latest, surely
from driftmeet.logs import last_of, last_reading, names, place, view
from driftmeet.wholes import down_over


def sent(log, lease):
    """The send of the lease's letter; what is no lease by this log is refused."""
    if lease[0] not in names(log):
        raise NoLease("no happening of the log has the letter's name")
    one = happening(log[place(log, lease[0])])
    if not isinstance(one, Send):
        raise NoLease("the letter is no send")
    if lease[1] < one.reading:
        raise NoLease("until is below the reading of the letter")
    return one


def may_hold(seen, lease, hand):
    """Whether the hand is the lessee and has taken the letter, and the lender was not seen at until or behind it."""
    takers = [row[1] for row in seen if row[0] == "take" and row[3] == lease[0]]
    return hand in takers and last_reading(seen, lease[0][0]) < lease[1]


def ended_view(world, log, lease, y):
    """The view of y with a look of the lender at until behind it; None where y cannot hold the lease at any time."""
    sent(log, lease)
    seen = view(world, log, y)
    # A view without a history is refused, whether or not the look could be put behind it.
    net_of(world, seen)
    if not may_hold(seen, lease, y[0]):
        return None
    return seen + [("look", lease[0][0], lease[1])]


def holds(world, log, lease, y):
    ended = ended_view(world, log, lease, y)
    return ended is not None and surely(world, ended, y, names(ended)[-1])


def hold_till(world, log, lease):
    lessee = sent(log, lease).to
    last = last_of(log, lessee)
    ended = None if last is None else ended_view(world, log, lease, last)
    if ended is None:
        return None
    most = between(world, ended, names(ended)[-1], last)[1]
    if most is None or most >= 0:
        return None
    # Each tick brings the lessee closer to the lender's look by long at most; one grain has to stay between.
    return last_reading(log, lessee) + down_over(-1 - most, world.clock(lessee)[1])


def doubt(world, log, lease, y):
    ended = ended_view(world, log, lease, y)
    if ended is None or surely(world, ended, y, names(ended)[-1]):
        return None
    return latest(world, ended, names(ended)[-1], y)


class Shelf:
    def __init__(self):
        self.last = None
        self.untils = {}

    def grant(self, thing, reading, until):
        if self.last is not None and reading < self.last:
            raise Backward(self.last)
        if until < reading:
            raise NoLease("until is below the reading")
        let = self.free_from(thing)
        if let is not None and let > reading:
            raise StillLet(let)
        self.last = reading
        self.untils[thing] = until

    def free_from(self, thing):
        return self.untils.get(thing)

    def lets(self, reading):
        return sorted([(thing, until) for thing, until in self.untils.items() if until > reading])
