"""A meeting: the log of a world as it grows row by row, and what each hand has heard of it."""

from driftmeet.known import between, when
from driftmeet.logs import check, last_of, last_reading, names, view


class Meeting:
    def __init__(self, world):
        self.world = world
        self.rows = []

    def log(self):
        return list(self.rows)

    def with_row(self, row):
        grown = self.rows + [row]
        check(self.world, grown)
        return grown

    def tell(self, row):
        self.rows = self.with_row(row)
        return names(self.rows)[-1]

    def heard(self, hand):
        self.world.refuse_hand(hand)
        last = last_of(self.rows, hand)
        return [] if last is None else view(self.world, self.rows, last)

    def news(self, hand, letter):
        heard = names(self.heard(hand))
        # The hand takes the letter on trial, at a reading that nothing but the letter could be refused for.
        last = last_reading(self.rows, hand)
        grown = self.with_row(("take", hand, 0 if last is None else last, letter))
        take = names(grown)[-1]
        reached = names(view(self.world, grown, take))
        return sorted([name for name in reached if name != take and name not in heard])

    def when(self, hand):
        heard = self.heard(hand)
        last = last_of(heard, hand)
        return (None, None) if last is None else when(self.world, heard, last)

    def between(self, hand, x, y):
        return between(self.world, self.heard(hand), x, y)
