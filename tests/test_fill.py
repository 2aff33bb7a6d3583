"""Points 301 to 303, 305 and 306, and points 1 to 4 for overpasses.filling.fill."""

import itertools
import random
import unittest

from cases import (HUGE, TOP, Case, filling_by_definition, full, large_samples, line, lower_than, no_places,
                   pairs_by_definition, prices_of, small_samples, some_ways, star)
from overpasses.filling.fill import check_filling, fill, lower_places
from overpasses.nets.net import road_sum
from overpasses.pairs.pairs import pairs

# The places 2 and 4 are lower than 1, which is lower than 0 and 3.
NET = (5, [(0, 1, 7, None), (0, 2, 1, 2), (0, 4, 3, 3), (1, 2, 4, 5), (1, 4, None, 3), (2, 3, None, None)])
ORDER = [2, 4, 1, 0, 3]
ROWS = [
    (2, 1, 5, 4, None, None), (2, 0, 2, 1, None, None), (2, 3, None, None, None, None),
    (4, 1, 3, None, None, None), (4, 0, 3, 3, None, None),
    (1, 0, 6, 6, 2, 2), (1, 3, None, None, None, None), (0, 3, None, None, None, None),
]


def samples():
    return itertools.chain(small_samples(31, 300), large_samples(32))


class Fill(Case):
    def test_a_literal_net(self):
        self.gives(ROWS, fill, NET, ORDER)

    def test_nets_without_links(self):
        self.gives([], fill, (1, []), [0])
        self.gives([], fill, (4, []), [3, 0, 2, 1])
        self.gives([], fill, (40, []), list(range(40)))

    def test_one_link(self):
        for up, down in itertools.product([1, 5, TOP, None], repeat=2):
            self.gives([(0, 1, up, down, None, None)], fill, (2, [(0, 1, up, down)]), [0, 1])
            self.gives([(1, 0, up, down, None, None)], fill, (2, [(0, 1, down, up)]), [1, 0])

    def test_a_pair_without_a_link(self):
        for order in ([0, 1, 2], [0, 2, 1]):
            u, v = order[1:]
            price = {(1, 2): 8, (2, 1): 10}
            net = (3, [(0, 1, 3, 3), (0, 2, 5, 7)])
            row = (u, v, price[u, v], price[v, u], 0, 0)
            self.assertEqual(fill(net, order)[-1], row)
        # Over the lower place, only the way from 2 to 1 is open, or none.
        self.assertEqual(fill((3, [(0, 1, 3, None), (0, 2, 5, 7)]), [0, 1, 2])[-1], (1, 2, None, 10, None, 0))
        self.assertEqual(fill((3, [(0, 1, 3, 3), (0, 2, None, None)]), [0, 1, 2])[-1], (1, 2, None, None, None, None))
        self.assertEqual(fill((3, [(0, 1, 3, None), (0, 2, 5, None)]), [0, 1, 2])[-1], (1, 2, None, None, None, None))

    def test_a_link_that_has_the_price_leaves_no_middle(self):
        for price, expected in [(7, (7, None)), (8, (8, None)), (9, (8, 0)), (TOP, (8, 0)), (None, (8, 0))]:
            rows = fill((3, [(0, 1, 9, 3), (0, 2, 5, 9), (1, 2, price, None)]), [0, 1, 2])
            self.assertEqual(rows[-1], (1, 2, expected[0], 18, expected[1], 0))
            rows = fill((3, [(0, 1, 5, 9), (0, 2, 9, 3), (1, 2, None, price)]), [0, 1, 2])
            self.assertEqual(rows[-1], (1, 2, 18, expected[0], 0, expected[1]))

    def test_the_lowest_place_is_the_middle(self):
        links = [(0, 3, 2, 2), (0, 4, 2, 2), (1, 3, 1, 1), (1, 4, 3, 3), (2, 3, 3, 3), (2, 4, 1, 1)]
        for lowest in itertools.permutations([0, 1, 2]):
            rows = fill((5, links), [*lowest, 3, 4])
            self.assertEqual(rows[-1], (3, 4, 4, 4, lowest[0], lowest[0]))
            rows = fill((5, links + [(3, 4, 4, 5)]), [*lowest, 3, 4])
            self.assertEqual(rows[-1], (3, 4, 4, 4, None, lowest[0]))
        # A place that is dearer, or shut, is not the middle, though it is lower.
        dear = [(0, 3, 2, 2), (0, 4, 2, 3), (1, 3, 1, 1), (1, 4, 3, 3), (2, 3, 3, None), (2, 4, 1, 1)]
        self.assertEqual(fill((5, dear), [0, 1, 2, 3, 4])[-1], (3, 4, 4, 4, 0, 1))
        self.assertEqual(fill((5, dear), [0, 2, 1, 3, 4])[-1], (3, 4, 4, 4, 0, 2))
        self.assertEqual(fill((5, dear), [2, 0, 1, 3, 4])[-1], (3, 4, 4, 4, 0, 2))

    def test_a_higher_place_is_no_middle(self):
        # From 0 to 1 over 2 costs less, but 2 is higher than both, or than one of them.
        net = (3, [(0, 1, 9, 9), (0, 2, 1, 1), (1, 2, 1, 1)])
        self.gives([(0, 1, 9, 9, None, None), (0, 2, 1, 1, None, None), (1, 2, 1, 1, None, None)],
                   fill, net, [0, 1, 2])
        self.gives([(0, 2, 1, 1, None, None), (0, 1, 9, 9, None, None), (2, 1, 1, 1, None, None)],
                   fill, net, [0, 2, 1])
        self.gives([(2, 0, 1, 1, None, None), (2, 1, 1, 1, None, None), (0, 1, 2, 2, 2, 2)], fill, net, [2, 0, 1])

    def test_great_sums(self):
        rows = fill((40, [(k, k + 1, TOP, TOP) for k in range(39)]), list(range(1, 39)) + [0, 39])
        self.assertEqual(rows[-1], (0, 39, 39 * TOP, 39 * TOP, 38, 38))
        self.gives(filling_by_definition(line(40), list(range(1, 39)) + [39, 0]),
                   fill, line(40), list(range(1, 39)) + [39, 0])

    def test_the_definition(self):
        for net, order in samples():
            self.gives(filling_by_definition(net, order), fill, net, order)

    def test_all_roads_of_small_nets(self):
        for net, order in small_samples(33, 300):
            for low, high, up, down, _, _ in fill(net, order):
                lower = lower_than(order, low, high)
                for x, y, price in ((low, high, up), (high, low, down)):
                    sums = [road_sum(net, way) for way in some_ways(net, x, y, lower)]
                    self.assertEqual(price, min([found for found in sums if found is not None], default=None))

    def test_the_pairs_with_all_ways_shut(self):
        for (n, links), order in samples():
            shut = (n, [(a, b, None, None) for a, b, _, _ in links])
            expected = [(u, v, None, None, None, None) for u, v in pairs_by_definition((n, links), order)]
            self.assertEqual(fill(shut, order), expected)


class LowerPlaces(Case):
    def test_a_literal_net(self):
        self.gives({(2, 1): [], (2, 0): [], (2, 3): [], (4, 1): [], (4, 0): [], (1, 0): [2, 4], (1, 3): [2],
                    (0, 3): [2, 1]}, lower_places, ROWS, ORDER)

    def test_edges(self):
        self.gives({}, lower_places, [], [0])
        self.gives({}, lower_places, [], [2, 0, 1])
        self.gives({(1, 0): []}, lower_places, [(1, 0, 5, None, None, None)], [1, 0])
        expected = {(u, v): list(range(39, u, -1)) for u in range(40) for v in range(u)}
        self.gives(expected, lower_places, fill(full(40), list(range(39, -1, -1))), list(range(39, -1, -1)))

    def test_from_the_lowest_to_the_highest(self):
        net = (5, [(a, b, 1, 1) for a in range(3) for b in (3, 4)])
        for lowest in itertools.permutations([0, 1, 2]):
            order = [*lowest, 3, 4]
            self.assertEqual(lower_places(fill(net, order), order)[3, 4], list(lowest))

    def test_the_definition(self):
        for net, order in samples():
            found = pairs_by_definition(net, order)
            expected = {(u, v): [w for w in lower_than(order, u, v) if (w, u) in found and (w, v) in found]
                        for u, v in found}
            self.gives(expected, lower_places, fill(net, order), order)

    def test_prices_play_no_part(self):
        rows = [(low, high, None, None, None, None) for low, high, *_ in ROWS]
        self.assertEqual(lower_places(rows, ORDER), lower_places(ROWS, ORDER))


class CheckFilling(Case):
    def passes(self, net, order, rows):
        self.gives(True, check_filling, net, order, rows)

    def refuses(self, net, order, rows):
        self.gives(False, check_filling, net, order, rows)

    def test_edges(self):
        self.passes(NET, ORDER, ROWS)
        self.passes((1, []), [0], [])
        self.passes((4, []), [2, 0, 1, 3], [])
        self.refuses((1, []), [0], [(0, 0, None, None, None, None)])
        self.refuses((4, []), [2, 0, 1, 3], [(2, 0, None, None, None, None)])
        self.refuses(line(2), [0, 1], [])
        self.refuses(line(2), [1, 0], fill(line(2), [0, 1]))

    def test_the_filling(self):
        for net, order in samples():
            self.passes(net, order, filling_by_definition(net, order))

    def test_one_element_changed(self):
        for k, j in itertools.product(range(len(ROWS)), range(6)):
            for value in [None, 0, 1, 2, 3, 4, 5, 6, 7, 8, 9, TOP, *no_places(5)]:
                if value != ROWS[k][j] and (j > 1 or value is not None):
                    row = ROWS[k][:j] + (value,) + ROWS[k][j + 1:]
                    self.refuses(NET, ORDER, ROWS[:k] + [row] + ROWS[k + 1:])

    def test_one_price_of_a_larger_net(self):
        rng = random.Random(34)
        for net, order in large_samples(35):
            rows = fill(net, order)
            for k in rng.sample(range(len(rows)), min(10, len(rows))):
                for j in (2, 3):
                    old = rows[k][j]
                    for value in ([None, old - 1, old + 1] if old else [1, 2, TOP, HUGE]):
                        row = rows[k][:j] + (value,) + rows[k][j + 1:]
                        self.refuses(net, order, rows[:k] + [row] + rows[k + 1:])

    def test_a_wrong_price_that_the_higher_rows_follow(self):
        # Each change of a lower price is carried on to all rows that are filled in from it.
        net, order = (4, [(0, 1, 1, 1), (0, 2, 1, 1), (1, 3, 1, 1)]), [0, 1, 2, 3]
        rows = fill(net, order)
        self.passes(net, order, rows)
        for k, value in itertools.product(range(3), [None, 2, 5, TOP]):
            link = {0: (0, 1), 1: (0, 2), 2: (1, 3)}[k]
            other = (4, [(a, b, value, 1) if (a, b) == link else (a, b, there, back) for a, b, there, back in net[1]])
            followed = fill(other, order)
            self.assertNotEqual(followed, rows)
            self.refuses(net, order, followed)

    def test_another_middle(self):
        links = [(0, 3, 2, 2), (0, 4, 2, 2), (1, 3, 1, 1), (1, 4, 3, 3), (2, 3, 3, 3), (2, 4, 1, 1), (3, 4, 4, 9)]
        rows = fill((5, links), [0, 1, 2, 3, 4])
        self.assertEqual(rows[-1], (3, 4, 4, 4, None, 0))
        for middle in (0, 1, 2, 3, 4, 5, -1):
            self.refuses((5, links), [0, 1, 2, 3, 4], rows[:-1] + [(3, 4, 4, 4, middle, 0)])
        for middle in (None, 1, 2, 3, 4, 5, -1):
            self.refuses((5, links), [0, 1, 2, 3, 4], rows[:-1] + [(3, 4, 4, 4, None, middle)])
        # Each of the lowest places may be the middle, if it is the first one in the order.
        self.passes((5, links), [1, 0, 2, 3, 4], fill((5, links), [1, 0, 2, 3, 4]))
        self.assertEqual(fill((5, links), [1, 0, 2, 3, 4])[-1], (3, 4, 4, 4, None, 1))

    def test_a_price_or_a_middle_where_the_way_is_shut(self):
        rows = fill((3, [(0, 1, 3, None), (0, 2, 5, None)]), [0, 1, 2])
        self.assertEqual(rows[-1], (1, 2, None, None, None, None))
        for row in [(1, 2, 1, None, None, None), (1, 2, None, 8, None, None), (1, 2, None, None, 0, None),
                    (1, 2, None, None, None, 0), (1, 2, None, 5, None, 0), (1, 2, 5, None, 0, None)]:
            self.refuses((3, [(0, 1, 3, None), (0, 2, 5, None)]), [0, 1, 2], rows[:-1] + [row])

    def test_a_row_left_out_or_doubled(self):
        for net, order, rows in [(NET, ORDER, ROWS), (full(7), list(range(7)), fill(full(7), list(range(7))))]:
            for k in range(len(rows)):
                self.refuses(net, order, rows[:k] + rows[k + 1:])
                self.refuses(net, order, rows[:k])
                for j in range(len(rows) + 1):
                    self.refuses(net, order, rows[:j] + [rows[k]] + rows[j:])
                    if j < len(rows) and j != k:
                        self.refuses(net, order, rows[:j] + [rows[k]] + rows[j + 1:])

    def test_rows_exchanged(self):
        for net, order, rows in [(NET, ORDER, ROWS), (star(5), list(range(5)), fill(star(5), list(range(5))))]:
            for j, k in itertools.combinations(range(len(rows)), 2):
                changed = list(rows)
                changed[j], changed[k] = changed[k], changed[j]
                self.refuses(net, order, changed)
            self.refuses(net, order, rows[::-1])

    def test_a_row_turned_round(self):
        for k, (low, high, up, down, up_middle, down_middle) in enumerate(ROWS):
            for row in [(high, low, down, up, down_middle, up_middle), (high, low, up, down, up_middle, down_middle)]:
                self.refuses(NET, ORDER, ROWS[:k] + [row] + ROWS[k + 1:])

    def test_a_row_of_no_pair(self):
        for u, v in itertools.product([*range(5), *no_places(5)], repeat=2):
            if (u, v) not in pairs(NET, ORDER):
                for k in range(len(ROWS) + 1):
                    self.refuses(NET, ORDER, ROWS[:k] + [(u, v, None, None, None, None)] + ROWS[k:])

    def test_the_filling_of_another_net_or_order(self):
        for net, order in small_samples(36, 300):
            rows = fill(net, order)
            for a, b in prices_of(net):
                if a < b:
                    other = (net[0], [link if link[:2] != (a, b) else (a, b, 17, link[3]) for link in net[1]])
                    self.gives(fill(other, order) == rows, check_filling, other, order, rows)
            for turned in (order[::-1], order[1:] + order[:1]):
                self.gives(fill(net, turned) == rows, check_filling, net, turned, rows)

    def test_changed_rows(self):
        rng = random.Random(37)
        refused = 0
        for net, order in small_samples(38, 1500):
            rows = fill(net, order)
            changed = list(rows)
            for _ in range(rng.choice([0, 1, 2])):
                if changed:
                    k, j = rng.randrange(len(changed)), rng.randrange(6)
                    value = rng.choice([None, 1, 2, 3, 4]) if j > 1 else rng.randrange(net[0])
                    changed[k] = changed[k][:j] + (value,) + changed[k][j + 1:]
            self.gives(changed == rows, check_filling, net, order, changed)
            refused += changed != rows
        self.assertGreater(refused, 300)


if __name__ == "__main__":
    unittest.main()
