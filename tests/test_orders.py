"""Points 201 and 208, and points 1 to 4 for overpasses.pairs.orders."""

import itertools
import random
import unittest

from cases import HUGE, Case, full, large_samples, line, no_places, small_samples, some_order, star
from overpasses.errors import NotAnOrder
from overpasses.pairs.orders import greedy_order, is_order, ranks


def first_fault(order):
    """The first index with a place that is out of range or stood before, or None."""
    for k, place in enumerate(order):
        if place not in range(len(order)) or place in order[:k]:
            return k
    return None


def greedy_by_definition(net):
    """Point 208 with the pairs of neighbours as a set."""
    near = {frozenset(link[:2]) for link in net[1]}
    left = list(range(net[0]))
    order = []
    while left:
        around = {a: [b for b in left if frozenset((a, b)) in near] for a in left}
        place = [a for a in left if len(around[a]) == min(map(len, around.values()))][0]
        near |= {frozenset(two) for two in itertools.combinations(around[place], 2)}
        order.append(place)
        left.remove(place)
    return order


class IsOrder(Case):
    def test_all_orders_of_a_small_net(self):
        for n in range(1, 6):
            for order in itertools.permutations(range(n)):
                self.gives(True, is_order, line(n), list(order))

    def test_long_orders(self):
        rng = random.Random(1)
        for n in (39, 40):
            self.gives(True, is_order, (n, []), list(range(n)))
            self.gives(True, is_order, full(n), some_order(rng, n))

    def test_a_place_left_out(self):
        for k in range(5):
            self.gives(False, is_order, line(5), [place for place in range(5) if place != k])
        self.gives(False, is_order, (1, []), [])
        self.gives(False, is_order, (40, []), list(range(39)))
        self.gives(False, is_order, (40, []), list(range(1, 40)))

    def test_a_place_twice(self):
        for k, place in itertools.product(range(6), range(5)):
            order = [3, 1, 0, 4, 2]
            self.gives(False, is_order, line(5), order[:k] + [place] + order[k:])
            if k < 5 and order[k] != place:
                self.gives(False, is_order, line(5), order[:k] + [place] + order[k + 1:])
        self.gives(False, is_order, (1, []), [0, 0])

    def test_a_place_out_of_range(self):
        for bad in no_places(5):
            for k in range(5):
                order = [3, 1, 0, 4, 2]
                self.gives(False, is_order, line(5), order[:k] + [bad] + order[k:])
                order[k] = bad
                self.gives(False, is_order, line(5), order)
        for bad in no_places(1):
            self.gives(False, is_order, (1, []), [bad])

    def test_an_order_of_another_net(self):
        self.gives(False, is_order, (3, []), [0, 1])
        self.gives(False, is_order, (3, []), [0, 1, 2, 3])
        self.gives(False, is_order, (2, []), [2, 1])
        self.gives(False, is_order, (2, []), [])

    def test_all_short_lists(self):
        for length in range(5):
            for order in itertools.product(range(-2, 5), repeat=length):
                self.gives(sorted(order) == [0, 1, 2], is_order, (3, [(0, 1, None, 1)]), list(order))


class Ranks(Case):
    def test_literal_ranks(self):
        self.gives([2, 0, 1], ranks, [1, 2, 0])
        self.gives([0], ranks, [0])
        self.gives([], ranks, [])
        self.gives([3, 1, 4, 0, 2], ranks, [3, 1, 4, 0, 2])
        self.gives([1, 2, 3, 0], ranks, [3, 0, 1, 2])

    def test_the_place_at_an_index_has_it_as_its_rank(self):
        rng = random.Random(2)
        for n in list(range(1, 12)) + [40]:
            order = some_order(rng, n)
            self.gives([order.index(place) for place in range(n)], ranks, order)

    def test_literal_faults(self):
        self.fails(NotAnOrder, 0, ranks, [1])
        self.fails(NotAnOrder, 1, ranks, [0, 0])
        self.fails(NotAnOrder, 2, ranks, [2, 0, 3])
        self.fails(NotAnOrder, 3, ranks, [3, 0, 1, 3])
        # Of two places that are equal, the second one is the fault.
        self.fails(NotAnOrder, 4, ranks, [2, 4, 1, 3, 4])
        # A negative integer is out of range, though a list has an item at this index.
        self.fails(NotAnOrder, 1, ranks, [0, -1, 1])

    def test_a_place_out_of_range(self):
        for bad in no_places(5):
            for k in range(5):
                order = [3, 1, 0, 4, 2]
                order[k] = bad
                self.fails(NotAnOrder, k, ranks, order)
                self.fails(NotAnOrder, min(k, 3), ranks, order[:3] + [HUGE] + order[4:])

    def test_a_place_that_is_too_great_for_a_shorter_list(self):
        self.fails(NotAnOrder, 0, ranks, [3, 1, 0])
        self.fails(NotAnOrder, 2, ranks, [0, 1, 3])
        self.fails(NotAnOrder, 39, ranks, list(range(39)) + [40])

    def test_all_short_lists(self):
        for length in range(6):
            for order in itertools.product(range(-1, length + 1), repeat=length):
                fault = first_fault(order)
                if fault is None:
                    self.gives([order.index(place) for place in range(length)], ranks, list(order))
                else:
                    self.fails(NotAnOrder, fault, ranks, list(order))


class GreedyOrder(Case):
    def test_ties_go_to_the_least_place(self):
        for n in (1, 2, 3, 40):
            self.gives(list(range(n)), greedy_order, (n, []))
            self.gives(list(range(n)), greedy_order, full(n))
        self.gives(list(range(40)), greedy_order, line(40))

    def test_literal_orders(self):
        # The centre of a star goes when one neighbour is left, before it as the less one.
        self.gives([1, 2, 3, 0, 4], greedy_order, star(5))
        # The line 1, 0, 3, 2.
        self.gives([1, 0, 2, 3], greedy_order, (4, [(0, 1, 1, 1), (0, 3, 1, 1), (2, 3, 1, 1)]))
        self.gives([3, 0, 1, 2], greedy_order, (4, [(0, 1, 1, 1), (0, 2, 1, 1), (1, 2, 1, 1)]))

    def test_neighbours_of_a_taken_place_become_neighbours(self):
        # The ring 0, 2, 1, 3: taking 0 joins 2 to 3. Otherwise they would have one neighbour less than 1.
        self.gives([0, 1, 2, 3], greedy_order, (4, [(0, 2, 1, 1), (0, 3, 1, 1), (1, 2, 1, 1), (1, 3, 1, 1)]))
        ring = (5, [(0, 3, 1, 1), (0, 4, 1, 1), (2, 3, 1, 1), (2, 4, 1, 1)])
        self.gives([1, 0, 2, 3, 4], greedy_order, ring)
        # The ring 0, 3, 1, 2, 4: taking 0 joins 3 to 4, then taking 1 joins 2 to 3.
        net = (6, [(0, 3, 1, 1), (0, 4, 1, 1), (1, 2, 1, 1), (1, 3, 1, 1), (2, 4, 1, 1)])
        self.gives([5, 0, 1, 2, 3, 4], greedy_order, net)

    def test_prices_play_no_part(self):
        for (n, links), _ in small_samples(3, 60):
            shut = [(a, b, None, None) for a, b, _, _ in links]
            self.gives(greedy_order((n, links)), greedy_order, (n, shut))

    def test_the_definition(self):
        for net, _ in itertools.chain(small_samples(4, 400), large_samples(5)):
            self.gives(greedy_by_definition(net), greedy_order, net)
            self.gives(True, is_order, net, greedy_order(net))


if __name__ == "__main__":
    unittest.main()
