"""Nets (points 21 and 24 to 29)."""

import copy
import unittest

from helper import MANY, Case, chance, least_sums, some_bounds

from driftmeet.errors import NoName, Ring
from driftmeet.nets import Net

A, B, C, D, E, F = (0, 0), (0, 1), (-1, 0), (2, 7), (3, 3), (-4, -4)
SIXTY = 10 ** 59 + 3


def net_with(*told):
    net = Net()
    for x, y, m in told:
        net.put(x, y, m)
    return net


class NetCase(Case):
    def has(self, net, names, edges):
        self.assertEqual(net.names(), names)
        self.assertEqual(net.edges(), edges)
        self.assertEqual(sorted(edges), sorted(names))
        for x in names:
            for y in names:
                self.assertEqual(net.bound(x, y), edges[x].get(y))

    def keeps_all(self, net, times):
        self.assertIs(type(times), dict)
        self.assertEqual(sorted(times), sorted(net.names()))
        for x, row in net.edges().items():
            for y, m in row.items():
                self.assertLessEqual(times[y] - times[x], m)
        for time in times.values():
            self.assertIs(type(time), int)

    def ring_told(self, net, x, y, m):
        """The put is refused with a right ring, and the net is as it was ahead."""
        names, edges = net.names(), net.edges()
        ring = self.refused(Ring, net.put, x, y, m).ring
        self.assertIs(type(ring), list)
        self.assertEqual((ring[0], ring[-1]), (y, x))
        total = m
        for one, other in zip(ring, ring[1:]):
            self.assertIn(other, edges[one])
            total += edges[one][other]
        self.assertLess(total, 0)
        self.has(net, names, edges)
        self.keeps_all(net, net.times())
        return ring

    def latest_is_right(self, net, x, y, far=None):
        times = net.latest(x, y) if far is None else net.latest(x, y, far)
        self.keeps_all(net, times)
        self.assertEqual(times[x], 0)
        if net.most(x, y) is None:
            self.assertGreaterEqual(times[y], 0 if far is None else far)
        else:
            self.assertEqual(times[y], net.most(x, y))
        return times


class Told(NetCase):
    def test_empty(self):
        net = Net()
        self.has(net, [], {})
        self.assertEqual(net.times(), {})

    def test_nothing_comes_back(self):
        net = Net()
        self.assertIsNone(net.name(A))
        self.assertIsNone(net.put(A, B, 1))
        self.assertIsNone(net.put(A, A, 0))

    def test_names_one_by_one(self):
        net = Net()
        for x in (D, A, C, A, D, B):
            net.name(x)
        self.has(net, [D, A, C, B], {D: {}, A: {}, C: {}, B: {}})

    def test_names_by_put(self):
        net = net_with((B, A, 3))
        self.assertEqual(net.names(), [B, A])
        net.put(C, A, 1)
        self.assertEqual(net.names(), [B, A, C])
        net.put(A, D, 1)
        net.name(F)
        net.put(E, F, 1)
        self.assertEqual(net.names(), [B, A, C, D, F, E])
        net.name(B)
        net.put(D, C, 9)
        self.assertEqual(net.names(), [B, A, C, D, F, E])

    def test_a_name_told_again_keeps_its_bounds(self):
        net = net_with((A, B, 3), (B, A, -1))
        net.name(A)
        net.name(B)
        self.has(net, [A, B], {A: {B: 3}, B: {A: -1}})

    def test_the_least_bound_is_kept(self):
        net = net_with((A, B, 5))
        for m, kept in ((7, 5), (5, 5), (3, 3), (4, 3), (0, 0), (1, 0), (-2, -2), (0, -2), (MANY, -2), (-MANY, -MANY)):
            net.put(A, B, m)
            self.has(net, [A, B], {A: {B: kept}, B: {}})

    def test_bounds_of_both_directions(self):
        net = net_with((A, B, 5), (B, A, -3), (A, C, 0))
        self.assertEqual(net.bound(A, B), 5)
        self.assertEqual(net.bound(B, A), -3)
        self.assertEqual(net.bound(A, C), 0)
        self.assertIsNone(net.bound(C, A))
        self.assertIsNone(net.bound(B, C))
        self.assertIsNone(net.bound(A, A))

    def test_a_bound_that_follows_is_not_kept(self):
        net = net_with((A, B, 2), (B, C, 2))
        self.assertIsNone(net.bound(A, C))
        net.put(A, C, 9)
        self.assertEqual(net.bound(A, C), 9)

    def test_a_bound_to_itself(self):
        net = net_with((A, A, 0))
        self.has(net, [A], {A: {}})
        net.put(B, B, 7)
        net.put(A, A, MANY)
        self.has(net, [A, B], {A: {}, B: {}})
        self.assertEqual(net.most(A, A), 0)


class Rings(NetCase):
    def test_two_names(self):
        net = net_with((A, B, 5))
        self.assertEqual(self.ring_told(net, B, A, -6), [A, B])
        self.assertEqual(self.ring_told(net, B, A, -MANY), [A, B])
        net.put(B, A, -5)
        self.has(net, [A, B], {A: {B: 5}, B: {A: -5}})
        self.assertEqual(self.ring_told(net, A, B, 4), [B, A])

    def test_to_itself(self):
        net = Net()
        self.assertEqual(self.ring_told(net, A, A, -1), [A])
        self.has(net, [], {})
        net.put(A, B, 3)
        self.assertEqual(self.ring_told(net, B, B, -MANY), [B])
        self.assertEqual(self.ring_told(net, C, C, -1), [C])
        self.has(net, [A, B], {A: {B: 3}, B: {}})

    def test_a_sum_of_nought_is_taken(self):
        net = net_with((A, B, 5), (B, C, -7), (C, A, 2))
        self.has(net, [A, B, C], {A: {B: 5}, B: {C: -7}, C: {A: 2}})
        self.ring_told(net, C, A, 1)
        self.ring_told(net, A, B, 4)
        self.ring_told(net, B, C, -8)

    def test_the_next_put_is_taken_as_if_nothing_had_been(self):
        net, other = net_with((A, B, 5), (B, C, 1)), net_with((A, B, 5), (B, C, 1))
        self.ring_told(net, C, A, -7)
        self.ring_told(net, D, D, -7)
        for one in (net, other):
            one.put(C, A, -6)
            one.put(D, A, 2)
        self.assertEqual(net.names(), other.names())
        self.assertEqual(net.edges(), other.edges())

    def test_by_the_least_way_and_no_other(self):
        net = net_with((A, B, 9), (A, C, 2), (C, B, 1))
        self.assertEqual(self.ring_told(net, B, A, -4), [A, C, B])
        net.put(B, A, -3)
        self.assertEqual(net.bound(B, A), -3)

    def test_no_way_back_no_ring(self):
        net = net_with((A, B, -MANY), (B, C, -MANY), (A, C, -1), (D, C, -5))
        self.has(net, [A, B, C, D], {A: {B: -MANY, C: -1}, B: {C: -MANY}, C: {}, D: {C: -5}})

    def test_over_many_names(self):
        some = [(k % 5, k) for k in range(64)]
        net = Net()
        for k in range(63):
            net.put(some[k], some[k + 1], 3 if k % 2 else -2)
        total = sum(3 if k % 2 else -2 for k in range(63))
        self.assertEqual(self.ring_told(net, some[63], some[0], -total - 1), some)
        net.put(some[63], some[0], -total)
        for k in range(63):
            self.ring_told(net, some[k], some[k + 1], (3 if k % 2 else -2) - 1)

    def test_the_ring_is_the_askers_own(self):
        net = net_with((A, B, 5), (B, C, 1))
        self.refused(Ring, net.put, C, A, -9).ring.clear()
        self.assertEqual(self.ring_told(net, C, A, -9), [A, B, C])
        self.has(net, [A, B, C], {A: {B: 5}, B: {C: 1}, C: {}})


class Random(NetCase):
    def test_puts_taken_and_refused(self):
        for seed in range(60):
            luck = chance(seed)
            some = [(k // 3, k % 3) for k in range(luck.randint(1, 7))]
            net, taken = Net(), []
            for _ in range(luck.randint(1, 30)):
                x, y, m = luck.choice(some), luck.choice(some), luck.randint(-4, 9)
                sums = least_sums(some, taken + [(x, y, m)])
                if any(sums[(one, one)] < 0 for one in some):
                    self.ring_told(net, x, y, m)
                else:
                    net.put(x, y, m)
                    taken.append((x, y, m))
                self.same_as(net, taken)

    def same_as(self, net, taken):
        names = list(dict.fromkeys(name for x, y, _ in taken for name in (x, y)))
        edges = {x: {} for x in names}
        for x, y, m in taken:
            if x != y:
                edges[x][y] = min(m, edges[x].get(y, m))
        self.has(net, names, edges)
        self.keeps_all(net, net.times())

    def test_most_road_and_latest(self):
        for seed in range(60):
            luck = chance(seed)
            number = luck.randint(1, 8)
            some, told = some_bounds(luck, number, luck.randint(0, 2 * number), luck.choice([3, 9, SIXTY, MANY]))
            net = net_with(*told)
            sums = least_sums(net.names(), told)
            for x in net.names():
                for y in net.names():
                    self.assertEqual(net.most(x, y), sums.get((x, y)))
                    self.road_is_right(net, x, y)
                    for far in (None, -MANY, -5, 0, 5, MANY):
                        self.latest_is_right(net, x, y, far)

    def road_is_right(self, net, x, y):
        way = net.road(x, y)
        if net.most(x, y) is None:
            self.assertIsNone(way)
            return
        self.assertEqual((way[0], way[-1]), (x, y))
        self.assertEqual(sum(net.bound(one, other) for one, other in zip(way, way[1:])), net.most(x, y))


class Times(NetCase):
    def test_a_chain(self):
        net = net_with((A, B, 5), (B, A, -3), (B, C, -7), (C, B, 7))
        times = net.times()
        self.keeps_all(net, times)
        self.assertTrue(3 <= times[B] - times[A] <= 5)
        self.assertEqual(times[C] - times[B], -7)

    def test_many_figures(self):
        net = net_with((A, B, -SIXTY), (B, C, SIXTY // 2), (C, A, SIXTY), (D, A, -SIXTY), (C, D, 2 * SIXTY))
        self.keeps_all(net, net.times())

    def test_parts_that_no_bound_joins(self):
        net = net_with((A, B, -4), (C, D, -9), (D, C, 9))
        net.name(E)
        self.keeps_all(net, net.times())
        self.assertEqual(len(net.times()), 5)

    def test_after_refused_puts(self):
        net = net_with((A, B, -4), (B, C, -4))
        for m in (7, 0, -SIXTY):
            self.ring_told(net, C, A, m)
            self.keeps_all(net, net.times())
        net.put(C, A, 8)
        self.keeps_all(net, net.times())


class Most(NetCase):
    def test_least_sums_over_several_ways(self):
        net = net_with((A, D, 9), (A, B, 3), (B, D, 2), (B, C, -2), (C, D, 3), (D, A, -4))
        self.assertEqual(net.most(A, D), 4)
        self.assertEqual(net.road(A, D), [A, B, C, D])
        self.assertEqual(net.most(A, C), 1)
        self.assertEqual(net.most(D, B), -1)
        self.assertEqual(net.road(D, B), [D, A, B])

    def test_where_no_way_leads(self):
        net = net_with((A, B, 3), (C, B, 1))
        net.name(D)
        for x, y in ((B, A), (A, C), (B, C), (A, D), (D, A)):
            self.assertIsNone(net.most(x, y))
            self.assertIsNone(net.road(x, y))

    def test_from_a_name_to_itself(self):
        net = net_with((A, B, 3), (C, C, 4), (D, E, 2), (E, D, -2))
        for x in net.names():
            self.assertEqual(net.most(x, x), 0)
        for x in (A, B, C):
            self.assertEqual(net.road(x, x), [x])


class Latest(NetCase):
    def test_where_a_way_leads(self):
        net = net_with((A, B, 5), (B, A, -3), (B, C, 2), (C, B, 0))
        self.assertEqual(self.latest_is_right(net, A, C), {A: 0, B: 5, C: 7})
        self.assertEqual(self.latest_is_right(net, C, A)[A], -3)
        for far in (-MANY, 6, 8, MANY):
            self.assertEqual(self.latest_is_right(net, A, C, far), {A: 0, B: 5, C: 7})

    def test_where_no_way_leads(self):
        net = net_with((A, B, 5), (C, D, 2), (D, C, 2))
        for far in (None, 0, 1, -1, 10 ** 60, -10 ** 60, MANY, -MANY):
            self.latest_is_right(net, A, C, far)
            self.latest_is_right(net, C, B, far)
            self.latest_is_right(net, B, A, far)
            self.latest_is_right(net, B, D, far)

    def test_far_below_what_the_bounds_ask(self):
        net = net_with((B, A, -30))
        self.assertGreaterEqual(self.latest_is_right(net, A, B, 4)[B], 30)
        self.assertGreaterEqual(self.latest_is_right(net, A, B, -4)[B], 30)
        self.assertGreaterEqual(self.latest_is_right(net, A, B, 31)[B], 31)

    def test_names_that_hang_on_one_alone(self):
        net = net_with((A, B, 5), (A, C, -9), (D, A, -9), (B, E, -9), (F, B, -50), (E, F, 90))
        for far in (None, -40, 40, MANY):
            self.latest_is_right(net, A, B, far)
            self.latest_is_right(net, B, A, far)
            self.latest_is_right(net, C, D, far)
            self.latest_is_right(net, D, E, far)

    def test_parts_that_no_bound_joins(self):
        net = net_with((A, B, 5), (C, D, -7), (D, C, 8))
        net.name(E)
        for x in net.names():
            for y in net.names():
                for far in (None, -3, 3):
                    self.latest_is_right(net, x, y, far)

    def test_from_a_name_to_itself(self):
        net = net_with((A, B, 5), (C, A, -8))
        for x in (A, B, C):
            self.assertEqual(self.latest_is_right(net, x, x, 50)[x], 0)

    def test_far_by_its_name(self):
        net = net_with((A, B, 5))
        self.assertGreaterEqual(net.latest(B, A, far=77)[A], 77)
        self.assertEqual(net.latest(x=A, y=B), {A: 0, B: 5})


class Asking(NetCase):
    def test_no_name(self):
        net = net_with((A, B, 5))
        for ask in (net.bound, net.most, net.road, net.latest):
            for x, y in ((A, C), (C, A), (C, C), (C, D), (B, (0, 2)), ((-1, 1), B)):
                with self.subTest(ask=ask, x=x, y=y):
                    self.refused(NoName, ask, x, y)
            self.refused(NoName, getattr(Net(), ask.__name__), A, A)
        self.refused(NoName, net.latest, A, C, 7)
        self.refused(NoName, net.latest, C, A, 7)
        self.has(net, [A, B], {A: {B: 5}, B: {}})

    def test_a_name_of_a_refused_put(self):
        net = net_with((A, B, 5))
        self.refused(Ring, net.put, C, C, -1)
        self.refused(NoName, net.most, A, C)

    def test_changes_nothing(self):
        net = net_with((C, B, 5), (B, A, -3), (A, C, -2))
        net.name(D)
        names, edges, times = net.names(), net.edges(), net.times()
        for x in names:
            for y in names:
                net.bound(x, y)
                net.most(x, y)
                net.road(x, y)
                net.latest(x, y)
                net.latest(x, y, 1000)
        self.assertEqual(net.names(), names)
        self.assertEqual(net.edges(), edges)
        self.assertEqual(list(net.edges()), list(edges))
        self.keeps_all(net, times)
        self.keeps_all(net, net.times())

    def test_what_is_told_is_the_askers_own(self):
        net = net_with((A, B, 5), (B, C, -3))
        kept_names, kept_edges = net.names(), net.edges()
        net.names().clear()
        net.edges().clear()
        net.edges()[A].clear()
        net.edges()[C][A] = -99
        net.times().clear()
        net.times()[A] = 10 ** 9
        net.latest(A, C).clear()
        net.road(A, C).clear()
        self.has(net, kept_names, kept_edges)
        self.keeps_all(net, net.times())
        self.assertEqual(net.road(A, C), [A, B, C])
        self.assertEqual(net.most(A, C), 2)
        self.latest_is_right(net, A, C)

    def test_what_was_told_stays(self):
        net = net_with((A, B, 5), (B, C, -3))
        told = [net.names(), net.edges(), net.times(), net.latest(A, C), net.road(A, C)]
        kept = copy.deepcopy(told)
        net.put(A, B, 0)
        net.put(C, D, 1)
        net.put(A, C, -50)
        self.assertEqual(told, kept)

    def test_two_nets_share_nothing(self):
        one, other = net_with((A, B, 5)), Net()
        self.has(other, [], {})
        other.put(A, B, 1)
        self.assertEqual(one.bound(A, B), 5)


class GreatestSize(NetCase):
    def test_a_chain_of_64_names(self):
        some = [(k, -k) for k in range(64)]
        net = Net()
        for k in reversed(range(63)):
            net.put(some[k], some[k + 1], 10)
            net.put(some[k + 1], some[k], -10)
        self.assertEqual(net.most(some[0], some[63]), 630)
        self.assertEqual(net.road(some[0], some[63]), some)
        self.assertEqual(net.most(some[63], some[0]), -630)
        self.keeps_all(net, net.times())
        self.latest_is_right(net, some[20], some[50])
        self.ring_told(net, some[63], some[0], -631)
        net.put(some[63], some[0], -630)

    def test_400_bounds_in_rings_of_nought(self):
        some = [(k // 8, k % 8) for k in range(64)]
        hidden = {x: (x[0] * 37 - x[1] * 101) % 53 for x in some}
        net, told = Net(), []
        for step in (1, 5, 11, 23, 31, 40):
            for k in range(64):
                x, y = some[k], some[(k + step) % 64]
                told.append((x, y, hidden[y] - hidden[x]))
        told += told[:16]
        self.assertEqual(len(told), 400)
        for x, y, m in told:
            net.put(x, y, m)
        self.keeps_all(net, net.times())
        for x in some[::9]:
            for y in some:
                self.assertEqual(net.most(x, y), hidden[y] - hidden[x])
                self.latest_is_right(net, x, y)
                if x != y:
                    self.ring_told(net, x, y, hidden[y] - hidden[x] - 1)

    def test_400_bounds_at_random(self):
        some, told = some_bounds(chance(3), 64, 400, SIXTY)
        net = net_with(*told)
        sums = least_sums(some, told)
        for x in some[:4]:
            for y in net.names():
                self.assertEqual(net.most(x, y), sums.get((x, y)))
                self.latest_is_right(net, x, y, 7)


if __name__ == "__main__":
    unittest.main()
