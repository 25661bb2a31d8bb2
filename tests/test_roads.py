"""Roads: spans and road over edges (points 22 and 23)."""

import copy
import unittest

from helper import MANY, Case, chance, least_sums, some_bounds

from driftmeet.errors import NoName
from driftmeet.roads import road, spans

A, B, C, D, E, F = (0, 0), (0, 1), (-1, 0), (2, 7), (3, 3), (-4, -4)

# From A to D lead three ways: straight by 9, by B by 5, by B and C by 4. A and
# B, B and C go round with a sum of nought. E leads to A alone, and nothing
# leads to E; F stands by itself.
EDGES = {
    A: {B: 3, D: 9},
    B: {A: -3, C: -2, D: 2},
    C: {B: 2, D: 3, C: 0},
    D: {D: 5},
    E: {A: -20, E: 0},
    F: {},
}


def written(some, told):
    edges = {x: {} for x in some}
    for x, y, m in told:
        edges[x][y] = min(m, edges[x].get(y, m))
    return edges


class RoadCase(Case):
    def check_road(self, edges, x, y, least):
        """A way from x to y by the edges, whose sum is the least."""
        way = road(edges, x, y)
        self.assertIs(type(way), list)
        self.assertEqual((way[0], way[-1]), (x, y))
        for one, other in zip(way, way[1:]):
            self.assertIn(other, edges[one])
        self.assertEqual(sum(edges[one][other] for one, other in zip(way, way[1:])), least)


class Spans(RoadCase):
    def test_least_sums_over_several_ways(self):
        self.assertEqual(spans(EDGES, A), {A: 0, B: 3, C: 1, D: 4})
        self.assertEqual(spans(EDGES, B), {A: -3, B: 0, C: -2, D: 1})
        self.assertEqual(spans(EDGES, C), {A: -1, B: 2, C: 0, D: 3})

    def test_a_bound_to_itself(self):
        self.assertEqual(spans(EDGES, D), {D: 0})
        self.assertEqual(spans({A: {A: 0}}, A), {A: 0})
        self.assertEqual(spans({A: {A: 7, B: 1}, B: {B: 0}}, A), {A: 0, B: 1})

    def test_just_the_names_to_which_a_way_leads(self):
        self.assertEqual(spans(EDGES, E), {E: 0, A: -20, B: -17, C: -19, D: -16})
        self.assertEqual(spans(EDGES, F), {F: 0})
        self.assertEqual(spans({A: {}}, A), {A: 0})

    def test_a_dict(self):
        self.assertIs(type(spans(EDGES, A)), dict)

    def test_many_figures(self):
        self.assertEqual(spans({A: {B: MANY, C: 1}, B: {}, C: {B: MANY - 2}}, A), {A: 0, B: MANY - 1, C: 1})
        self.assertEqual(spans({A: {B: -MANY}, B: {C: -MANY}, C: {}}, A), {A: 0, B: -MANY, C: -2 * MANY})

    def test_no_name(self):
        self.refused(NoName, spans, EDGES, (9, 9))
        self.refused(NoName, spans, {}, A)


class Roads(RoadCase):
    def test_least_sums_over_several_ways(self):
        self.assertEqual(road(EDGES, A, D), [A, B, C, D])
        self.assertEqual(road(EDGES, E, D), [E, A, B, C, D])
        self.assertEqual(road(EDGES, C, D), [C, D])
        self.assertEqual(road(EDGES, B, A), [B, A])

    def test_any_of_those_with_the_least_sum(self):
        edges = {A: {B: 1, C: 2}, B: {D: 2}, C: {D: 1}, D: {}}
        self.assertIn(road(edges, A, D), ([A, B, D], [A, C, D]))

    def test_where_no_way_leads(self):
        for x, y in ((A, E), (A, F), (F, A), (D, A), (D, E), (E, F)):
            self.assertIsNone(road(EDGES, x, y))

    def test_from_a_name_to_itself(self):
        for x in EDGES:
            self.check_road(EDGES, x, x, 0)
        self.assertEqual(road(EDGES, D, D), [D])
        self.assertEqual(road(EDGES, F, F), [F])

    def test_no_name_in_either_place(self):
        for name in ((9, 9), (0, 2), (1, 0)):
            self.refused(NoName, road, EDGES, name, A)
            self.refused(NoName, road, EDGES, A, name)
            self.refused(NoName, road, EDGES, F, name)
            self.refused(NoName, road, EDGES, name, name)
        self.refused(NoName, road, {}, A, A)

    def test_rounds_of_nought_all_over(self):
        some = [(0, k) for k in range(12)]
        edges = {x: {y: y[1] * 7 - x[1] * 7 for y in some} for x in some}
        for x in some:
            self.assertEqual(spans(edges, x), {y: 7 * (y[1] - x[1]) for y in some})
            for y in some:
                self.check_road(edges, x, y, 7 * (y[1] - x[1]))


class Random(RoadCase):
    def test_against_sums_over_each_middle_name(self):
        for seed in range(120):
            luck = chance(seed)
            number = luck.randint(1, 9)
            some, told = some_bounds(luck, number, luck.randint(0, 4 * number), luck.choice([3, 9, MANY]))
            edges = written(some, told)
            sums = least_sums(some, told)
            for x in some:
                self.assertEqual(spans(edges, x), {y: sums[(x, y)] for y in some if (x, y) in sums})
                for y in some:
                    if (x, y) in sums:
                        self.check_road(edges, x, y, sums[(x, y)])
                    else:
                        self.assertIsNone(road(edges, x, y))

    def test_a_whole_net_of_the_greatest_size(self):
        luck = chance(1)
        some, told = some_bounds(luck, 64, 400, 50)
        edges = written(some, told)
        sums = least_sums(some, told)
        for x in some[:8]:
            self.assertEqual(spans(edges, x), {y: sums[(x, y)] for y in some if (x, y) in sums})
            for y in some:
                if (x, y) in sums:
                    self.check_road(edges, x, y, sums[(x, y)])


class HandedIn(Case):
    def test_stays_as_it_was(self):
        edges = copy.deepcopy(EDGES)
        for x in EDGES:
            spans(edges, x)
            for y in EDGES:
                road(edges, x, y)
        self.assertEqual(edges, EDGES)
        self.assertEqual([list(row) for row in edges.values()], [list(row) for row in EDGES.values()])

    def test_what_is_told_is_the_askers_own(self):
        told = spans(EDGES, A)
        told[A] = 99
        told.pop(D)
        self.assertEqual(spans(EDGES, A), {A: 0, B: 3, C: 1, D: 4})
        way = road(EDGES, A, D)
        way.clear()
        self.assertEqual(road(EDGES, A, D), [A, B, C, D])

    def test_edges_changed_behind_change_nothing_told(self):
        edges = copy.deepcopy(EDGES)
        told, way = spans(edges, A), road(edges, A, D)
        edges[A][D] = 0
        edges[B].clear()
        self.assertEqual(told, {A: 0, B: 3, C: 1, D: 4})
        self.assertEqual(way, [A, B, C, D])


if __name__ == "__main__":
    unittest.main()
