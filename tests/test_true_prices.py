"""Points 601 to 603, and points 1 to 4 for overpasses.labels.prices."""

import itertools
import random
import unittest

from cases import (TOP, Case, large_samples, least_of_all_roads, least_sums, line, small_samples, some_net,
                   some_order, star, ways_in_order)
from overpasses.answers.search import answer, answers
from overpasses.filling.fill import fill
from overpasses.labels.prices import slack_ways, true_prices, without_slack

# 3 is the highest place; over it, the ways between 1 and 2 are cheaper than over 0, and so is (2, 0).
NET = (4, [(0, 1, 5, 1), (0, 2, 4, 9), (1, 3, 2, 1), (2, 3, 2, None)])
ORDER = [0, 1, 2, 3]
ROWS = [(0, 1, 5, 1, None, None), (0, 2, 4, 9, None, None), (1, 2, 5, 14, 0, 0), (1, 3, 2, 1, None, None),
        (2, 3, 2, 6, None, 1)]
# With a tie: from 1 to 2 over 0, or over 3.
TIE = (4, [(0, 1, 2, 2), (0, 2, 2, 2), (1, 3, 2, 1), (2, 3, 2, 2)])


def samples():
    return itertools.chain(small_samples(101, 300), large_samples(102))


class TruePrices(Case):
    def test_a_literal_net(self):
        self.assertEqual(fill(NET, ORDER), ROWS)
        self.gives({(0, 1): 5, (1, 0): 1, (0, 2): 4, (2, 0): 4, (1, 2): 5, (2, 1): 3, (1, 3): 2, (3, 1): 1,
                    (2, 3): 2, (3, 2): 6}, true_prices, ORDER, ROWS)

    def test_edges(self):
        self.gives({}, true_prices, [0], [])
        self.gives({}, true_prices, [2, 0, 1], [])
        for up, down in itertools.product([1, TOP, None], repeat=2):
            self.gives({(0, 1): up, (1, 0): down}, true_prices, [0, 1], [(0, 1, up, down, None, None)])
            self.gives({(0, 1): down, (1, 0): up}, true_prices, [1, 0], [(1, 0, up, down, None, None)])

    def test_all_roads(self):
        rng = random.Random(103)
        eight = [(some_net(rng, 8, share, [1, 2, 3, 7, None]), some_order(rng, 8)) for share in (0.2, 0.4, 0.8)]
        for net, order in itertools.chain(small_samples(104, 300), eight):
            rows = fill(net, order)
            expected = {(x, y): least_of_all_roads(net, x, y) for x, y in ways_in_order(rows)}
            self.gives(expected, true_prices, order, rows)

    def test_large_nets(self):
        for net, order in large_samples(105):
            rows = fill(net, order)
            sums = least_sums(net)
            self.gives({way: sums[way] for way in ways_in_order(rows)}, true_prices, order, rows)

    def test_never_greater_than_the_filled_in_price(self):
        lower = 0
        for net, order in samples():
            rows = fill(net, order)
            true = true_prices(order, rows)
            for way, price in ways_in_order(rows).items():
                if price is not None:
                    self.assertLessEqual(true[way], price)
                    lower += true[way] < price
        self.assertGreater(lower, 300)

    def test_a_price_only_over_higher_places(self):
        # Both ways of (0, 1) are shut by themselves, and open over 2 and 3.
        net = (4, [(0, 1, None, None), (0, 2, 1, None), (1, 3, 1, 1), (2, 3, 1, 1)])
        rows = fill(net, [0, 1, 2, 3])
        self.assertEqual(rows[0], (0, 1, None, None, None, None))
        true = true_prices([0, 1, 2, 3], rows)
        self.assertEqual((true[0, 1], true[1, 0]), (3, None))


class Slack(Case):
    def test_a_literal_net(self):
        self.gives([(2, 0), (2, 1)], slack_ways, ORDER, ROWS)
        kept = [ROWS[0], (0, 2, 4, None, None, None), (1, 2, 5, None, 0, None), *ROWS[3:]]
        self.gives(kept, without_slack, ORDER, ROWS)

    def test_edges(self):
        for call in (slack_ways, without_slack):
            self.gives([], call, [0], [])
            self.gives([], call, [2, 0, 1], [])
        for up, down in itertools.product([1, TOP, None], repeat=2):
            row = (1, 0, up, down, None, None)
            slack = [way for way, price in [((1, 0), up), ((0, 1), down)] if price is None]
            self.gives(slack, slack_ways, [1, 0], [row])
            self.gives([row], without_slack, [1, 0], [row])

    def test_a_tie_is_not_slack(self):
        for order in itertools.permutations(range(4)):
            rows = fill(TIE, list(order))
            true = true_prices(list(order), rows)
            slack = [way for way, price in ways_in_order(rows).items() if price > true[way]]
            self.gives(slack, slack_ways, list(order), rows)
        rows = fill(TIE, [0, 1, 2, 3])
        self.assertEqual(rows[2], (1, 2, 4, 4, 0, 0))
        self.assertEqual(slack_ways([0, 1, 2, 3], rows), [(2, 1)])
        self.assertEqual(without_slack([0, 1, 2, 3], rows)[2], (1, 2, 4, None, 0, None))

    def test_ways_without_a_price_are_slack(self):
        net = (3, [(0, 1, None, 2), (0, 2, None, None), (1, 2, 7, None)])
        rows = fill(net, [0, 1, 2])
        self.gives([(0, 1), (0, 2), (2, 0), (2, 1)], slack_ways, [0, 1, 2], rows)
        self.gives(rows, without_slack, [0, 1, 2], rows)

    def test_the_definition(self):
        for net, order in samples():
            rows = fill(net, order)
            sums = least_sums(net)
            slack = [way for way, price in ways_in_order(rows).items() if price is None or price > sums[way]]
            self.gives(slack, slack_ways, order, rows)
            kept = []
            for low, high, up, down, up_middle, down_middle in rows:
                if (low, high) in slack:
                    up = up_middle = None
                if (high, low) in slack:
                    down = down_middle = None
                kept.append((low, high, up, down, up_middle, down_middle))
            self.gives(kept, without_slack, order, rows)

    def test_a_middle_goes_with_its_way(self):
        changed = 0
        for net, order in samples():
            rows = fill(net, order)
            for old, new in zip(rows, without_slack(order, rows), strict=True):
                self.assertEqual(new[:2], old[:2])
                for price, middle in ((2, 4), (3, 5)):
                    self.assertIn((new[price], new[middle]), [(old[price], old[middle]), (None, None)])
                changed += new != old
        self.assertGreater(changed, 300)

    def test_all_answers_stay(self):
        for net, order in samples():
            rows = fill(net, order)
            kept = without_slack(order, rows)
            places = list(range(net[0]))
            for s in places:
                expected = answers(order, rows, s, places)
                self.assertEqual(answers(order, kept, s, places), expected)
                self.assertEqual([answer(order, kept, s, t)[0] for t in places[::3]], expected[::3])

    def test_nets_without_detours(self):
        order = list(range(40))
        for net in (line(40), star(40)):
            rows = fill(net, order)
            self.gives([], slack_ways, order, rows)
            self.gives(rows, without_slack, order, rows)


if __name__ == "__main__":
    unittest.main()
