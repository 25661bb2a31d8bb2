"""A shown clock: it goes beside a hand's own clock, is put right by stretches of true time, and never goes back."""

from driftmeet.errors import Backward, NoClock
from driftmeet.stretches import stretch
from driftmeet.wholes import up_over
from driftmeet.worlds import refuse_clock


class Shown:
    def __init__(self, clock, crawl, dash, reading, shown):
        refuse_clock(clock[0], clock[1])
        if not 0 <= crawl < clock[0] or not clock[1] < dash:
            raise NoClock("crawl is not from 0 to below short, or dash is not above long")
        self.short = clock[0]
        self.long = clock[1]
        self.crawl = crawl
        self.dash = dash
        self.last = reading
        # What was shown at the last put's reading, and the stretch put there.
        self.since = reading
        self.base = shown
        self.aim = (None, None)

    def refuse_backward(self, reading):
        if reading < self.last:
            raise Backward(self.last)

    def is_behind(self):
        return self.aim[0] is not None and self.base < self.aim[0]

    def is_ahead(self):
        return self.aim[1] is not None and self.base > self.aim[1]

    def shown_at(self, reading):
        ticks = reading - self.since
        if self.is_behind():
            return min(self.base + self.dash * ticks, self.aim[0] + self.short * ticks)
        if self.is_ahead():
            return max(self.base + self.crawl * ticks, self.aim[1] + self.long * ticks)
        return self.base + self.short * ticks

    def put(self, reading, one):
        self.refuse_backward(reading)
        aim = stretch(one[0], one[1])
        self.base = self.shown_at(reading)
        self.since = reading
        self.aim = aim
        self.last = reading

    def show(self, reading):
        self.refuse_backward(reading)
        self.last = reading
        return self.shown_at(reading)

    def right_by(self):
        if self.is_behind():
            return self.since + up_over(self.aim[0] - self.base, self.dash - self.short)
        if self.is_ahead():
            return self.since + up_over(self.base - self.aim[1], self.long - self.crawl)
        return self.since
