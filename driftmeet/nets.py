"""Nets: names and the bounds between them, taken in one at a time as long as some times keep them all."""

from driftmeet.errors import Ring
from driftmeet.roads import refuse_unknown, road, settle, spans


def needed_lifts(edges, reached, free):
    """How much later the names that are not reached must come, by each bound that leads from them into the reached."""
    lifts = []
    for x, row in edges.items():
        if x not in reached:
            lifts.extend([reached[y] - most - free[x] for y, most in row.items() if y in reached])
    return lifts


class Net:
    def __init__(self):
        # The edges themselves: the names stand there in the order in which they came in.
        self.kept = {}

    def refuse_ring(self, x, y, most):
        if x not in self.kept or y not in self.kept:
            return
        back = self.most(y, x)
        if back is not None and back + most < 0:
            raise Ring(self.road(y, x))

    def name(self, x):
        if x not in self.kept:
            self.kept[x] = {}

    def put(self, x, y, most):
        if x == y:
            self.put_round(x, most)
            return
        self.refuse_ring(x, y, most)
        self.name(x)
        self.name(y)
        self.kept[x][y] = min(most, self.kept[x].get(y, most))

    def put_round(self, x, most):
        if most < 0:
            raise Ring([x])
        self.name(x)

    def names(self):
        return list(self.kept)

    def bound(self, x, y):
        refuse_unknown(self.kept, x)
        refuse_unknown(self.kept, y)
        return self.kept[x].get(y)

    def edges(self):
        told = {}
        for x, row in self.kept.items():
            told[x] = dict(row)
        return told

    def times(self):
        # As if a name ahead of all had a bound by 0 to each: the least sums from there keep all bounds.
        sums = {}
        for x in self.kept:
            sums[x] = 0
        settle(self.kept, sums, {})
        return sums

    def most(self, x, y):
        refuse_unknown(self.kept, y)
        return spans(self.kept, x).get(y)

    def road(self, x, y):
        return road(self.kept, x, y)

    def latest(self, x, y, far=0):
        refuse_unknown(self.kept, y)
        # What is reached from x comes as late as it may. No bound leads from
        # there to the others, so these may come later together as far as needed.
        reached = spans(self.kept, x)
        free = self.times()
        lifts = needed_lifts(self.kept, reached, free)
        if y not in reached:
            lifts.append(far - free[y])
        lift = max(lifts, default=0)
        told = {}
        for name in self.kept:
            told[name] = reached[name] if name in reached else free[name] + lift
        return told
