"""Points 701 to 703, and points 1 to 4 for overpasses.best.roads."""

import itertools
import random
import unittest

from cases import (HUGE, TOP, Case, full, least_sums, line, no_places, prices_of, simple_roads, small_samples, some_net,
                   star)
from overpasses.best.roads import best_roads
from overpasses.errors import NoPlace, OutOfRange

BAD_COUNTS = [0, -1, -8, 9, 10, 2 ** 32 - 1, HUGE, -HUGE]

# The roads from 0 to 4: two with the sum 6 and three places, one with four places, and dearer ones.
NET = (5, [(0, 1, 2, 2), (0, 2, 3, 1), (0, 4, 7, None), (1, 2, 2, None), (1, 4, 4, 1), (2, 3, 1, 1), (2, 4, 3, 5),
           (3, 4, 2, None)])
ROADS = [(6, [0, 1, 4]), (6, [0, 2, 4]), (6, [0, 2, 3, 4]), (7, [0, 4]), (7, [0, 1, 2, 4]), (7, [0, 1, 2, 3, 4])]


def ranked(found):
    return sorted(found, key=lambda item: (item[0], len(item[1]), item[1]))


def roads_up_to(net, start, goal, bound):
    """The sums and the roads of all simple roads whose sum is at most the bound."""
    sums = least_sums(net)
    near = {a: [(b, price) for (x, b), price in prices_of(net).items() if x == a and price is not None]
            for a in range(net[0])}
    found = []

    def go_on(total, road):
        if road[-1] == goal:
            found.append((total, road))
            return
        for other, price in near[road[-1]]:
            rest = sums[other, goal]
            if other not in road and rest is not None and total + price + rest <= bound:
                go_on(total + price, [*road, other])

    go_on(0, [start])
    return found


def mostly_linked(seed):
    """Nets of 13 to 40 places with most links."""
    rng = random.Random(seed)
    for n, share, values in [(13, 0.9, range(1, 60)), (13, 0.8, [5, 7, 9, 11, None]), (17, 0.9, range(1, 9)),
                             (22, 0.8, range(1000, 2000)), (28, 0.95, [1, 3, 9, 27, 81, None, None]),
                             (34, 0.9, range(1, TOP + 1)), (40, 0.9, range(1, TOP + 1)), (40, 1, range(1, 300)),
                             (40, 0.8, [TOP - 1, TOP, None])]:
        yield some_net(rng, n, share, values)


class BestRoads(Case):
    def test_a_literal_net(self):
        for count in range(1, 9):
            self.gives(ROADS[:count], best_roads, NET, 0, 4, count)
        self.gives([(3, [4, 1, 0]), (4, [4, 1, 2, 0]), (6, [4, 2, 0])], best_roads, NET, 4, 0, 8)

    def test_start_and_goal_are_equal(self):
        for net in [(1, []), (3, []), NET, full(6)]:
            for place, count in itertools.product(range(net[0]), range(1, 9)):
                self.gives([(0, [place])], best_roads, net, place, place, count)

    def test_no_road(self):
        shut = (4, [(0, 1, 5, None), (1, 2, None, 3), (2, 3, None, None)])
        for count in range(1, 9):
            self.gives([], best_roads, (2, []), 0, 1, count)
            self.gives([], best_roads, shut, 0, 2, count)
            self.gives([], best_roads, shut, 1, 0, count)
            self.gives([], best_roads, shut, 2, 3, count)
            self.gives([(5, [0, 1])], best_roads, shut, 0, 1, count)

    def test_fewer_roads_than_the_count(self):
        for count in range(1, 9):
            self.gives([(78, list(range(40)))], best_roads, line(40), 0, 39, count)
            self.gives([(9, [3, 2, 1, 0])], best_roads, line(4), 3, 0, count)
            self.gives([(73, [7, 0, 3])], best_roads, star(40), 7, 3, count)
        ring = (4, [(0, 1, 1, 1), (0, 3, 1, 1), (1, 2, 1, 1), (2, 3, 1, 1)])
        self.gives([(2, [0, 1, 2]), (2, [0, 3, 2])], best_roads, ring, 0, 2, 8)
        self.gives([(1, [1, 2]), (3, [1, 0, 3, 2])], best_roads, ring, 1, 2, 3)

    def test_the_rank_of_roads(self):
        # The sum comes ahead of the number of places, and that ahead of the list.
        ones = (5, [(a, b, 1, 1) for a, b in itertools.combinations(range(5), 2)])
        self.gives([(1, [3, 1]), (2, [3, 0, 1]), (2, [3, 2, 1]), (2, [3, 4, 1]), (3, [3, 0, 2, 1]), (3, [3, 0, 4, 1]),
                    (3, [3, 2, 0, 1]), (3, [3, 2, 4, 1])], best_roads, ones, 3, 1, 8)
        # Each road that only ascends costs the same.
        even = (6, [(a, b, b - a, None) for a, b in itertools.combinations(range(6), 2)])
        self.gives([(5, [0, 5]), (5, [0, 1, 5]), (5, [0, 2, 5]), (5, [0, 3, 5]), (5, [0, 4, 5]), (5, [0, 1, 2, 5]),
                    (5, [0, 1, 3, 5]), (5, [0, 1, 4, 5])], best_roads, even, 0, 5, 8)
        # A road with fewer places comes first, though it is greater as a list.
        net = (5, [(0, 1, 1, 1), (0, 4, 2, 2), (1, 2, 1, 1), (2, 3, 1, 1), (3, 4, 1, 1)])
        self.gives([(3, [0, 4, 3]), (3, [0, 1, 2, 3])], best_roads, net, 0, 3, 8)

    def test_all_simple_roads(self):
        rng = random.Random(121)
        nets = [net for net, _ in small_samples(122, 210)]
        nets += [some_net(rng, n, share, values) for n, share in [(7, 0.5), (7, 0.7), (8, 0.4), (8, 0.5), (6, 1)]
                 for values in ([1, 2, None], [1], [1, 2, 3, 4, 5, 6, 7, 8, 9, None], [3, 3, 3, 6])]
        for net in nets:
            for start, goal in itertools.product(range(net[0]), repeat=2):
                found = ranked(simple_roads(net, start, goal))
                self.assertEqual(best_roads(net, start, goal, 8), found[:8])
                count = rng.randrange(1, 9)
                self.gives(found[:count], best_roads, net, start, goal, count)

    def test_each_count(self):
        for net, _ in small_samples(123, 70):
            for start, goal in itertools.permutations(range(net[0]), 2):
                found = best_roads(net, start, goal, 8)
                for count in range(1, 8):
                    self.assertEqual(best_roads(net, start, goal, count), found[:count])

    def test_nets_with_most_links(self):
        rng = random.Random(124)
        for net in mostly_linked(125):
            for _ in range(4):
                start, goal = rng.sample(range(net[0]), 2)
                found = best_roads(net, start, goal, 8)
                self.assertEqual(len(found), 8)
                bound = found[-1][0]
                self.assertEqual(ranked(roads_up_to(net, start, goal, bound))[:8], found)

    def test_nets_with_more_roads_than_could_be_listed(self):
        even = (40, [(a, b, b - a, b - a) for a, b in itertools.combinations(range(40), 2)])
        self.gives([(39, [0, 39])] + [(39, [0, k, 39]) for k in range(1, 8)], best_roads, even, 0, 39, 8)
        self.gives([(39, [39, 0])] + [(39, [39, k, 0]) for k in range(1, 8)], best_roads, even, 39, 0, 8)
        same = (40, [(a, b, TOP, TOP) for a, b in itertools.combinations(range(40), 2)])
        self.gives([(TOP, [5, 9])] + [(2 * TOP, [5, k, 9]) for k in [0, 1, 2, 3, 4, 6, 7]], best_roads, same, 5, 9, 8)
        # The best road has all places, so that there are branches at all of them.
        links = [(a, b, 1 if b == a + 1 else 3 if b == a + 2 else TOP, TOP)
                 for a, b in itertools.combinations(range(40), 2)]
        expected = [(40, [k for k in range(40) if k != left]) for left in range(38, 31, -1)]
        self.gives([(39, list(range(40))), *expected], best_roads, (40, links), 0, 39, 8)

    def test_a_road_that_comes_back_to_its_branch_is_not_simple(self):
        # From 1 the way back to 0 is cheap, and so is the one that the best road took.
        net = (4, [(0, 1, 1, 1), (0, 2, 1, 1), (1, 3, 50, 50), (2, 3, 1, 1)])
        self.gives([(2, [0, 2, 3]), (51, [0, 1, 3])], best_roads, net, 0, 3, 8)
        net = (4, [(0, 1, 1, 1), (0, 2, 1, 1), (2, 3, 1, 1)])
        self.gives([(2, [0, 2, 3])], best_roads, net, 0, 3, 8)

    def test_errors_in_their_order(self):
        for net in [(1, []), NET]:
            n = net[0]
            for bad in no_places(n):
                for count in [1, 8, *BAD_COUNTS]:
                    for other in [0, n - 1, *no_places(n)]:
                        self.fails(NoPlace, bad, best_roads, net, bad, other, count)
                    for place in range(n):
                        self.fails(NoPlace, bad, best_roads, net, place, bad, count)
            for count in BAD_COUNTS:
                for start, goal in itertools.product(range(n), repeat=2):
                    self.fails(OutOfRange, count, best_roads, net, start, goal, count)
        for count in BAD_COUNTS:
            self.fails(OutOfRange, count, best_roads, (2, []), 0, 1, count)


if __name__ == "__main__":
    unittest.main()
