"""The bounds of a log: what its happenings and the clocks between them tell, and which of them times break."""

from driftmeet.errors import NoHistory
from driftmeet.happenings import NOUGHT, happening
from driftmeet.logs import names


def clock_bounds(clock, last, here, ticks):
    return [(last, here, clock[1] * ticks), (here, last, -clock[0] * ticks)]


def bounds(world, log):
    told = []
    readings = {}
    for here, row in zip(names(log), log):
        one = happening(row)
        told.extend(one.own_bounds(world, here))
        last = (here[0], here[1] - 1)
        if last in readings:
            told.extend(clock_bounds(world.clock(one.hand), last, here, one.reading - readings[last]))
        readings[here] = one.reading
    return told


def broken(world, log, times):
    if len(times) != len(log):
        raise NoHistory("there is not one time for each happening")
    time_of = {NOUGHT: 0}
    for name, time in zip(names(log), times):
        time_of[name] = time
    return [bound for bound in bounds(world, log) if time_of[bound[1]] - time_of[bound[0]] > bound[2]]
