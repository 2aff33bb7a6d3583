"""Points 505 and 506, and points 1 to 4 for overpasses.answers.roads."""

import itertools
import random
import unittest

from cases import (HUGE, TOP, Case, full, large_samples, least_of_all_roads, least_sums, line, no_places, small_samples,
                   some_net, some_order)
from overpasses.answers.roads import answer_road
from overpasses.answers.search import answer, down_sums, up_sums
from overpasses.errors import NoPlace
from overpasses.filling.fill import fill
from overpasses.filling.ways import road_of
from overpasses.labels.prices import without_slack
from overpasses.nets.net import road_sum


def samples():
    return itertools.chain(small_samples(81, 210), large_samples(82))


def road_by_definition(order, rows, start, stop):
    """Point 505: the steps up to the top and down from it, each way replaced by its road."""
    top = answer(order, rows, start, stop)[1]
    if top is None:
        return None
    ups, downs = up_sums(order, rows, start), down_sums(order, rows, stop)
    ways = []
    place = top
    while place != start:
        ways.insert(0, (ups[place][1], place))
        place = ups[place][1]
    place = top
    while place != stop:
        ways.append((place, downs[place][1]))
        place = downs[place][1]
    road = [start]
    for x, y in ways:
        road += road_of(rows, x, y)[1:]
    return road


class AnswerRoad(Case):
    def is_road(self, net, road, start, stop, number):
        if number is None:
            self.assertIsNone(road)
        else:
            self.assertEqual((road[0], road[-1]), (start, stop))
            self.assertEqual(road_sum(net, road), number)
            self.assertEqual(len(set(road)), len(road))

    def test_a_literal_net(self):
        # The order begins with 1, so the way from 0 to 2 is one over 1, or the link of the same price.
        order = [1, 0, 2, 3]
        for price, road in [(6, [0, 2, 3]), (7, [0, 1, 2, 3]), (None, [0, 1, 2, 3]), (5, [0, 2, 3])]:
            net = (4, [(0, 1, 2, 2), (0, 2, price, None), (1, 2, 4, 9), (2, 3, 5, None)])
            rows = fill(net, order)
            self.gives(road, answer_road, order, rows, 0, 3)
            self.gives([2, 1, 0], answer_road, order, rows, 2, 0)
            self.gives(None, answer_road, order, rows, 3, 0)

    def test_a_place_to_itself(self):
        for net, order in samples():
            for place in range(net[0]):
                self.gives([place], answer_road, order, fill(net, order), place, place)
        self.gives([0], answer_road, [0], [], 0, 0)

    def test_ties(self):
        # From 0 to 3 over 1 or 2 for the same price.
        net = (4, [(0, 1, 3, 3), (0, 2, 4, 4), (1, 3, 5, 5), (2, 3, 4, 4)])
        for order in itertools.permutations(range(4)):
            order = list(order)
            rows = fill(net, order)
            expected = road_by_definition(order, rows, 0, 3)
            self.gives(expected, answer_road, order, rows, 0, 3)
            self.gives(road_by_definition(order, rows, 3, 0), answer_road, order, rows, 3, 0)
        # The lower one of both is the step up to 3, or the middle of the way to it, or the lower top.
        for order, road in [([0, 1, 2, 3], [0, 1, 3]), ([0, 2, 1, 3], [0, 2, 3]), ([1, 2, 0, 3], [0, 1, 3]),
                            ([2, 1, 0, 3], [0, 2, 3]), ([0, 3, 1, 2], [0, 1, 3]), ([3, 0, 2, 1], [0, 2, 3])]:
            self.gives(road, answer_road, order, fill(net, order), 0, 3)
            self.gives(road[::-1], answer_road, order, fill(net, order), 3, 0)

    def test_the_definition(self):
        for net, order in samples():
            places = order if net[0] <= 8 else order[::6]
            for rows in (fill(net, order), without_slack(order, fill(net, order))):
                for s, t in itertools.product(places, repeat=2):
                    self.gives(road_by_definition(order, rows, s, t), answer_road, order, rows, s, t)

    def test_all_roads(self):
        rng = random.Random(83)
        eight = [(some_net(rng, 8, share, [1, 2, 3, None]), some_order(rng, 8)) for share in (0.2, 0.4, 0.7)]
        for net, order in itertools.chain(small_samples(84, 210), eight):
            for order in (order, order[::-1], list(range(net[0]))):
                rows = fill(net, order)
                kept = without_slack(order, rows)
                for s, t in itertools.product(range(net[0]), repeat=2):
                    number = least_of_all_roads(net, s, t)
                    self.is_road(net, answer_road(order, rows, s, t), s, t, number)
                    self.is_road(net, answer_road(order, kept, s, t), s, t, number)

    def test_large_nets(self):
        for net, order in large_samples(85):
            rows = fill(net, order)
            kept = without_slack(order, rows)
            sums = least_sums(net)
            for s, t in itertools.product(order[::5], order[::3]):
                self.is_road(net, answer_road(order, rows, s, t), s, t, sums[s, t])
                self.is_road(net, answer_road(order, kept, s, t), s, t, sums[s, t])

    def test_long_roads(self):
        for order in (list(range(40)), list(range(39, -1, -1)), sorted(range(40), key=lambda k: k * 17 % 40)):
            rows = fill(line(40), order)
            self.gives(list(range(40)), answer_road, order, rows, 0, 39)
            self.gives(list(range(30, 9, -1)), answer_road, order, rows, 30, 10)
        rows = fill((40, [(k, k + 1, TOP, None) for k in range(39)]), list(range(40)))
        self.gives(list(range(40)), answer_road, list(range(40)), rows, 0, 39)
        self.gives(None, answer_road, list(range(40)), rows, 39, 0)

    def test_no_place(self):
        for n, rows in [(1, []), (3, []), (5, fill(full(5), [4, 2, 0, 1, 3]))]:
            order = [4, 2, 0, 1, 3] if n == 5 else list(range(n))
            for bad in no_places(n):
                for other in [0, n - 1, *no_places(n)]:
                    self.fails(NoPlace, bad, answer_road, order, rows, bad, other)
                for place in order:
                    self.fails(NoPlace, bad, answer_road, order, rows, place, bad)
        self.fails(NoPlace, -HUGE, answer_road, [0], [], -HUGE, HUGE)


if __name__ == "__main__":
    unittest.main()
