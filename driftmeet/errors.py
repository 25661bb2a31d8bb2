"""The refusals: one class for each, all of them under DriftError, none under another."""

# The words of a refusal hold no number: Python will not write one of more than
# some thousand figures, and a refusal must not fail for that.
# Lists are copied, so that what the raiser does with its own changes nothing here.


class DriftError(ValueError):
    pass


class NoNumber(DriftError):
    pass


class NoStretch(DriftError):
    pass


class NoHand(DriftError):
    pass


class NoClock(DriftError):
    pass


class NoWay(DriftError):
    pass


class NoHappening(DriftError):
    pass


class Backward(DriftError):
    def __init__(self, last):
        DriftError.__init__(self, "the reading is below the last one")
        self.last = last


class NoLetter(DriftError):
    pass


class NoName(DriftError):
    pass


class NoHistory(DriftError):
    pass


class Ring(DriftError):
    def __init__(self, ring):
        DriftError.__init__(self, "the bounds contradict each other")
        self.ring = list(ring)


class MoreLie(DriftError):
    def __init__(self, rings):
        DriftError.__init__(self, "more hands lie than was told")
        self.rings = [(list(pair[0]), list(pair[1])) for pair in rings]


class NoDate(DriftError):
    pass


class NoLease(DriftError):
    pass


class StillLet(DriftError):
    def __init__(self, until):
        DriftError.__init__(self, "the thing is still let")
        self.until = until


class NoText(DriftError):
    pass


class NoRow(DriftError):
    pass
