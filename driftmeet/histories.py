"""Histories of a log: its net, and true times that keep all its bounds."""

from driftmeet.bounds import bounds
from driftmeet.happenings import NOUGHT
from driftmeet.logs import names
from driftmeet.nets import Net


def net_of(world, log):
    net = Net()
    net.name(NOUGHT)
    for name in names(log):
        net.name(name)
    # The ring of a refused put and the refused bound go round by bounds of the
    # log alone, so it is the log's ring as well.
    for x, y, most in bounds(world, log):
        net.put(x, y, most)
    return net


def as_history(log, times):
    """Times of the log's net as a list in the log's order, moved together so that NOUGHT comes at 0."""
    return [times[name] - times[NOUGHT] for name in names(log)]


def history(world, log):
    return as_history(log, net_of(world, log).times())
