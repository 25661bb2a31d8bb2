"""What is known of a log: of the time between two of its happenings, why it is so, and how far it may be otherwise."""

from driftmeet.errors import NoName
from driftmeet.happenings import NOUGHT
from driftmeet.histories import as_history, net_of
from driftmeet.logs import names
from driftmeet.roads import spans


def net_for(world, log, some):
    """The log's net; names that are not in it are refused ahead of a log without a history."""
    there = [NOUGHT] + names(log)
    for name in some:
        if name not in there:
            raise NoName("the log has no such name")
    return net_of(world, log)


def between(world, log, x, y):
    net = net_for(world, log, [x, y])
    back = net.most(y, x)
    return (None if back is None else -back, net.most(x, y))


def when(world, log, x):
    return between(world, log, NOUGHT, x)


def road(world, log, x, y):
    return net_for(world, log, [x, y]).road(x, y)


def latest(world, log, x, y, far=0):
    return as_history(log, net_for(world, log, [x, y]).latest(x, y, far))


def surely(world, log, x, y):
    early = between(world, log, x, y)[0]
    return early is not None and early > 0


def spread(world, log, some):
    if len(some) == 0:
        raise NoName("there is no name to spread")
    edges = net_for(world, log, some).edges()
    widest = (0, some[0], some[0])
    for x in some:
        sums = spans(edges, x)
        for y in some:
            if y not in sums:
                return (None, x, y)
            if sums[y] > widest[0]:
                widest = (sums[y], x, y)
    return widest
