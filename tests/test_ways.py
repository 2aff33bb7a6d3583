"""Points 301, 303 and 304, and points 1 to 4 for overpasses.filling.ways."""

import itertools
import unittest

from cases import HUGE, TOP, Case, filling_by_definition, full, large_samples, line, no_places, small_samples
from overpasses.errors import NoPair
from overpasses.filling.fill import fill
from overpasses.filling.ways import middle_of, price_of, road_of
from overpasses.nets.net import road_sum

# The filling of a line 0, 1, 2, 3 with a link from 0 to 3; the way back is shut between 1 and 2.
NET = (4, [(0, 1, 2, 3), (0, 3, 50, 5), (1, 2, 4, None), (2, 3, 6, 7)])
ORDER = [1, 2, 0, 3]
ROWS = [(1, 2, 4, None, None, None), (1, 0, 3, 2, None, None), (2, 0, None, 6, None, 1), (2, 3, 6, 7, None, None),
        (0, 3, 12, 5, 2, None)]
WAYS = [
    (1, 2, 4, None, [1, 2]), (2, 1, None, None, None), (1, 0, 3, None, [1, 0]), (0, 1, 2, None, [0, 1]),
    (2, 0, None, None, None), (0, 2, 6, 1, [0, 1, 2]), (2, 3, 6, None, [2, 3]), (3, 2, 7, None, [3, 2]),
    (0, 3, 12, 2, [0, 1, 2, 3]), (3, 0, 5, None, [3, 0]),
]


def samples():
    for net, order in itertools.chain(small_samples(41, 300), large_samples(42)):
        yield net, order, filling_by_definition(net, order)


def ways_of(rows):
    """Each way of a filling with its price and its middle."""
    for low, high, up, down, up_middle, down_middle in rows:
        yield low, high, up, up_middle
        yield high, low, down, down_middle


class Ways(Case):
    def no_pair(self, rows, x, y):
        for call in (price_of, middle_of, road_of):
            self.fails(NoPair, 0, call, rows, x, y)

    def test_a_literal_filling(self):
        self.assertEqual(fill(NET, ORDER), ROWS)
        for x, y, price, middle, road in WAYS:
            self.gives(price, price_of, ROWS, x, y)
            self.gives(middle, middle_of, ROWS, x, y)
            self.gives(road, road_of, ROWS, x, y)

    def test_prices_and_middles_of_each_way(self):
        for _, _, rows in samples():
            for x, y, price, middle in ways_of(rows):
                self.assertEqual(price_of(rows, x, y), price)
                self.assertEqual(middle_of(rows, x, y), middle)

    def test_two_places_that_are_no_pair(self):
        self.no_pair(ROWS, 1, 3)
        self.no_pair(ROWS, 3, 1)
        for net, order in small_samples(43, 200):
            rows = fill(net, order)
            known = {(x, y) for x, y, _, _ in ways_of(rows)}
            for x, y in itertools.product(range(net[0]), repeat=2):
                if (x, y) not in known:
                    self.no_pair(rows, x, y)

    def test_no_pair_in_a_net_without_links(self):
        for x, y in [(0, 0), (0, 1), (1, 0), (-1, 0), (HUGE, HUGE)]:
            self.no_pair([], x, y)

    def test_a_place_twice(self):
        for place in range(4):
            self.no_pair(ROWS, place, place)

    def test_places_out_of_range(self):
        for bad in no_places(4):
            for place in range(4):
                self.no_pair(ROWS, bad, place)
                self.no_pair(ROWS, place, bad)
            for other in no_places(4):
                self.no_pair(ROWS, bad, other)

    def test_a_pair_with_both_ways_shut_is_a_pair(self):
        for call in (price_of, middle_of, road_of):
            self.gives(None, call, [(0, 1, None, None, None, None)], 0, 1)
            self.gives(None, call, [(0, 1, None, None, None, None)], 1, 0)


class Roads(Case):
    def test_no_road_exactly_where_the_price_is_none(self):
        for _, _, rows in samples():
            for x, y, price, _ in ways_of(rows):
                self.assertEqual(road_of(rows, x, y) is None, price is None)

    def test_each_road(self):
        for net, order, rows in samples():
            for x, y, price, middle in ways_of(rows):
                if price is not None:
                    road = road_of(rows, x, y)
                    self.assertEqual((road[0], road[-1]), (x, y))
                    self.assertEqual(len(set(road)), len(road))
                    self.assertEqual(road_sum(net, road), price)
                    bound = min(order.index(x), order.index(y))
                    self.assertTrue(all(order.index(place) < bound for place in road[1:-1]))

    def test_the_middle_joins_two_roads(self):
        for _, order, rows in samples():
            for x, y, price, middle in ways_of(rows):
                if price is not None and middle is None:
                    self.assertEqual(road_of(rows, x, y), [x, y])
                if middle is not None:
                    road = road_of(rows, x, y)
                    self.assertEqual(max(road[1:-1], key=order.index), middle)
                    self.assertEqual(road, road_of(rows, x, middle) + road_of(rows, middle, y)[1:])

    def test_arguments_stay_and_roads_are_new(self):
        for net, order in small_samples(44, 150):
            rows = fill(net, order)
            for x, y, price, middle in ways_of(rows):
                self.gives(price, price_of, rows, x, y)
                self.gives(middle, middle_of, rows, x, y)
                self.gives(road_of(rows, x, y), road_of, rows, x, y)

    def test_ties_of_roads(self):
        # From 3 to 4 over 0 or 1 for the same sum: the road leads over the lower one.
        links = [(0, 3, 2, 2), (0, 4, 2, 2), (1, 3, 1, 1), (1, 4, 3, 3)]
        for order in ([0, 1, 2, 3, 4], [1, 0, 2, 3, 4], [2, 1, 0, 3, 4]):
            lowest = next(place for place in order if place < 2)
            self.gives([3, lowest, 4], road_of, fill((5, links), order), 3, 4)
            self.gives([4, lowest, 3], road_of, fill((5, links), order), 4, 3)
            self.gives([3, 4], road_of, fill((5, links + [(3, 4, 4, 4)]), order), 3, 4)
            self.gives([4, lowest, 3], road_of, fill((5, links + [(3, 4, 4, 5)]), order), 4, 3)

    def test_a_long_road(self):
        # The inner places are taken from the ends, from one end, and from the middle.
        for inner in (list(range(1, 39)), list(range(38, 0, -1)), sorted(range(1, 39), key=lambda k: abs(2 * k - 39)),
                      sorted(range(1, 39), key=lambda k: k * 17 % 39)):
            rows = fill(line(40), [*inner, 0, 39])
            self.gives(list(range(40)), road_of, rows, 0, 39)
            self.gives(list(range(39, -1, -1)), road_of, rows, 39, 0)
            self.gives(78, price_of, rows, 0, 39)
            self.gives(117, price_of, rows, 39, 0)

    def test_full_nets(self):
        rows = fill(full(40), list(range(40)))
        for x, y in itertools.permutations(range(40), 2):
            self.assertEqual(road_sum(full(40), road_of(rows, x, y) or []), price_of(rows, x, y))
        self.assertIsNone(price_of([(0, 1, None, TOP, None, None)], 0, 1))
        self.assertEqual(price_of([(0, 1, None, TOP, None, None)], 1, 0), TOP)


if __name__ == "__main__":
    unittest.main()
