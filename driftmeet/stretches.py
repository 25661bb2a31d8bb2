"""Stretches: tuples (early, late) of whole numbers, None where there is no end on that side."""

from driftmeet.errors import NoStretch


def crossed(early, late):
    return early is not None and late is not None and early > late


def stretch(early, late):
    if crossed(early, late):
        raise NoStretch("early is above late")
    return (early, late)


def lies_in(number, one):
    # A number is just as well the stretch that holds it alone.
    return within((number, number), one)


def end_moved(end, step):
    if end is None or step is None:
        return None
    return end + step


def moved(one, least, most):
    if crossed(least, most):
        raise NoStretch("most is below least")
    return (end_moved(one[0], least), end_moved(one[1], most))


def told_ends(ends):
    return [end for end in ends if end is not None]


def met(one, other):
    early = max(told_ends([one[0], other[0]]), default=None)
    late = min(told_ends([one[1], other[1]]), default=None)
    if crossed(early, late):
        return None
    return (early, late)


def joined(some):
    if len(some) == 0:
        raise NoStretch("there is no stretch to join")
    earlies = [one[0] for one in some]
    lates = [one[1] for one in some]
    early = None if None in earlies else min(earlies)
    late = None if None in lates else max(lates)
    return (early, late)


def within(one, other):
    # No stretch is empty, so its ends alone decide.
    early_in = other[0] is None or (one[0] is not None and one[0] >= other[0])
    late_in = other[1] is None or (one[1] is not None and one[1] <= other[1])
    return early_in and late_in
