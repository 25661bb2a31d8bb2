"""Worlds: how many hands there are, each one's clock, and the ways of the letters between them."""

from driftmeet.errors import NoClock, NoHand, NoWay

MOST_HANDS = 6


def refuse_clock(short, long):
    if short < 1:
        raise NoClock("short is below 1")
    if long < short:
        raise NoClock("long is below short")


def refuse_lengths(least, most):
    if least < 0:
        raise NoWay("least is below nought")
    if most is not None and most < least:
        raise NoWay("most is below least")


class World:
    def __init__(self, clocks, ways):
        if len(clocks) < 1 or len(clocks) > MOST_HANDS:
            raise NoHand("a world has one to six hands")
        for short, long in clocks:
            refuse_clock(short, long)
        self.kept_clocks = list(clocks)
        self.kept_ways = {}
        for one, other, least, most in ways:
            self.enter_way(one, other, least, most)

    def enter_way(self, one, other, least, most):
        self.refuse_pair(one, other)
        if (one, other) in self.kept_ways:
            raise NoWay("this way was told ahead")
        refuse_lengths(least, most)
        self.kept_ways[(one, other)] = (least, most)

    def refuse_hand(self, hand):
        if not self.has_hand(hand):
            raise NoHand("the world has no such hand")

    def refuse_pair(self, one, other):
        self.refuse_hand(one)
        self.refuse_hand(other)
        if one == other:
            raise NoHand("a way leads to another hand")

    def hands(self):
        return len(self.kept_clocks)

    def has_hand(self, hand):
        return 0 <= hand < self.hands()

    def has_way(self, one, other):
        return (one, other) in self.kept_ways

    def clock(self, hand):
        self.refuse_hand(hand)
        return self.kept_clocks[hand]

    def way(self, one, other):
        self.refuse_pair(one, other)
        if not self.has_way(one, other):
            raise NoWay("no way leads from the one hand to the other")
        return self.kept_ways[(one, other)]
