"""Points 101 to 103 and 106, and points 1 to 4 for overpasses.nets.net."""

import copy
import itertools
import unittest

from overpasses.errors import BadPrice, NoLink, NoPlace
from overpasses.nets.net import is_net, neighbours, price, road_sum, with_price

TOP = 1000000
HUGE = 10 ** 40
BAD_PRICES = [0, -1, -5, -HUGE, TOP + 1, 2 ** 32 - 1, HUGE]
NO_PLACES = [-1, -2, -5, -HUGE, 5, 6, 40, 2 ** 32 - 1, HUGE]


def sample():
    """Five places: 0, 1, 2 and 3 are linked, 4 is alone; some ways are shut."""
    return (5, [(0, 1, 5, 6), (0, 2, None, 7), (1, 2, 8, None), (1, 3, None, None), (2, 3, 1, TOP)])


def ways(net):
    """The price of each way of each link, found without the program."""
    found = {}
    for a, b, there, back in net[1]:
        found[a, b] = there
        found[b, a] = back
    return found


def full(n):
    pairs = itertools.combinations(range(n), 2)
    return (n, [(a, b, 1 + 50 * a + b, None if (a + b) % 3 == 0 else 7000 + 50 * b + a) for a, b in pairs])


def star():
    """The links of place 2 stand among the others: from lower places, and to higher ones."""
    return (40, [(0, 2, 1, 1), (0, 39, 1, 1), (1, 2, 1, 1), (1, 3, 1, 1), (2, 3, 1, 1), (2, 39, 1, 1), (3, 4, 1, 1)])


class NetCase(unittest.TestCase):
    def fails(self, error, at, call, *args):
        """The call raises exactly this error, with this `at`, and changes nothing."""
        before = copy.deepcopy(args)
        with self.assertRaises(error) as caught:
            call(*args)
        self.assertIs(type(caught.exception), error)
        self.assertEqual(caught.exception.at, at)
        self.assertEqual(args, before)


class IsNet(NetCase):
    def is_one(self, net):
        before = copy.deepcopy(net)
        self.assertIs(is_net(net), True, net)
        self.assertEqual(net, before)

    def is_none(self, net):
        before = copy.deepcopy(net)
        self.assertIs(is_net(net), False, net)
        self.assertEqual(net, before)

    def test_nets(self):
        self.is_one(sample())
        self.is_one(star())
        self.is_one((3, [(0, 2, 5, None)]))
        self.is_one((2, [(0, 1, None, None)]))
        self.is_one((2, [(0, 1, 1, TOP)]))
        self.is_one((2, [(0, 1, TOP, 1)]))
        self.is_one((40, [(38, 39, 2, 2)]))

    def test_all_numbers_of_places(self):
        for n in range(1, 41):
            self.is_one((n, []))
            self.is_one(full(n))

    def test_wrong_numbers_of_places(self):
        for n in [0, -1, -40, -HUGE, 41, 42, 100, 2 ** 32 - 1, HUGE]:
            self.is_none((n, []))
            self.is_none((n, [(0, 1, 1, 1)]))

    def test_equal_places(self):
        for k in range(3):
            self.is_none((3, [(k, k, 1, 1)]))

    def test_places_in_the_wrong_order(self):
        self.is_none((3, [(1, 0, 1, 1)]))
        self.is_none((3, [(2, 0, 1, 1)]))
        self.is_none((3, [(0, 1, 1, 1), (2, 1, 1, 1)]))

    def test_places_out_of_range(self):
        for a, b in [(0, 3), (2, 3), (0, 4), (3, 4), (0, HUGE), (HUGE, HUGE + 1)]:
            self.is_none((3, [(a, b, 1, 1)]))
        self.is_none((40, [(39, 40, 1, 1)]))
        self.is_none((1, [(0, 1, 1, 1)]))

    def test_negative_places(self):
        for a, b in [(-1, 0), (-1, 1), (-2, -1), (-HUGE, 2), (0, -1)]:
            self.is_none((3, [(a, b, 1, 1)]))

    def test_links_out_of_order(self):
        self.is_none((3, [(0, 2, 1, 1), (0, 1, 1, 1)]))
        self.is_none((3, [(1, 2, 1, 1), (0, 1, 1, 1)]))
        self.is_none((4, [(1, 2, 1, 1), (0, 3, 1, 1)]))
        links = sample()[1]
        for order in itertools.permutations(links):
            self.assertIs(is_net((5, list(order))), list(order) == links)

    def test_a_link_twice(self):
        self.is_none((3, [(0, 1, 1, 1), (0, 1, 1, 1)]))
        self.is_none((3, [(0, 1, 1, 1), (0, 1, 2, 3)]))
        self.is_none((3, [(0, 1, 1, 1), (0, 2, 1, 1), (0, 1, 1, 1)]))
        self.is_none((3, [(0, 1, 1, 1), (1, 0, 1, 1)]))

    def test_wrong_prices(self):
        for bad in BAD_PRICES:
            for good in (1, TOP, None):
                self.is_none((2, [(0, 1, bad, good)]))
                self.is_none((2, [(0, 1, good, bad)]))
            self.is_none((2, [(0, 1, bad, bad)]))

    def test_what_is_wrong_stands_in_a_later_link(self):
        wrong = [(2, 2, 1, 1), (3, 2, 1, 1), (2, 5, 1, 1), (-1, 4, 1, 1), (0, 3, 1, 1), (1, 3, 1, 1),
                 (2, 4, 0, 1), (2, 4, 1, 0), (2, 4, TOP + 1, 1), (2, 4, 1, TOP + 1)]
        for link in wrong:
            n, links = sample()
            self.is_none((n, links + [link]))
        n, links = sample()
        self.is_one((n, links + [(2, 4, 1, 1)]))

    def test_what_is_wrong_stands_in_an_earlier_link(self):
        for link in [(0, 0, 1, 1), (-1, 0, 1, 1), (0, 1, 0, 1), (0, 1, 1, TOP + 1)]:
            self.is_none((5, [link, (1, 2, 1, 1), (2, 3, 1, 1)]))


class Price(NetCase):
    def test_both_ways_of_each_link(self):
        for net in (sample(), star(), full(1), full(7), full(40)):
            before = copy.deepcopy(net)
            for (a, b), value in ways(net).items():
                self.assertEqual(price(net, a, b), value)
            self.assertEqual(net, before)

    def test_literal_prices(self):
        net = sample()
        self.assertEqual([price(net, 0, 1), price(net, 1, 0), price(net, 2, 0), price(net, 1, 2)], [5, 6, 7, 8])
        self.assertEqual([price(net, 2, 3), price(net, 3, 2)], [1, TOP])
        for a, b in [(0, 2), (2, 1), (1, 3), (3, 1)]:
            self.assertIsNone(price(net, a, b))

    def test_no_link(self):
        found = ways(sample())
        for a, b in itertools.product(range(5), repeat=2):
            if (a, b) not in found:
                self.fails(NoLink, 0, price, sample(), a, b)
        self.fails(NoLink, 0, price, (1, []), 0, 0)

    def test_first_place_does_not_exist(self):
        for bad in NO_PLACES:
            for b in range(5):
                self.fails(NoPlace, bad, price, sample(), bad, b)

    def test_second_place_does_not_exist(self):
        for bad in NO_PLACES:
            for a in range(5):
                self.fails(NoPlace, bad, price, sample(), a, bad)

    def test_neither_place_exists(self):
        for first, second in itertools.product(NO_PLACES, repeat=2):
            self.fails(NoPlace, first, price, sample(), first, second)


class Neighbours(NetCase):
    def test_open_and_shut_links(self):
        found = [neighbours(sample(), a) for a in range(5)]
        self.assertEqual(found, [[1, 2], [0, 2, 3], [0, 1, 3], [1, 2], []])

    def test_lower_places_stand_before_higher_ones(self):
        self.assertEqual(neighbours(star(), 2), [0, 1, 3, 39])
        self.assertEqual(neighbours(star(), 3), [1, 2, 4])
        self.assertEqual(neighbours(star(), 39), [0, 2])
        self.assertEqual(neighbours(star(), 38), [])

    def test_every_place_of_a_full_net(self):
        for a in range(40):
            self.assertEqual(neighbours(full(40), a), [b for b in range(40) if b != a])
        self.assertEqual(neighbours((1, []), 0), [])

    def test_no_place(self):
        for bad in NO_PLACES:
            self.fails(NoPlace, bad, neighbours, sample(), bad)
        self.fails(NoPlace, 1, neighbours, (1, []), 1)
        self.fails(NoPlace, 40, neighbours, full(40), 40)

    def test_the_list_is_new(self):
        net = sample()
        neighbours(net, 0).append(4)
        self.assertEqual(neighbours(net, 0), [1, 2])
        neighbours(net, 4).append(4)
        self.assertEqual(neighbours(net, 4), [])
        self.assertEqual(net, sample())


class WithPrice(NetCase):
    def test_sets_one_price_and_keeps_the_others(self):
        for net in (sample(), star(), full(6)):
            before = copy.deepcopy(net)
            for a, b in ways(net):
                for value in (1, 2, 999999, TOP, None):
                    changed = with_price(net, a, b, value)
                    self.assertIs(type(changed), tuple)
                    self.assertIs(is_net(changed), True)
                    expected = ways(net)
                    expected[a, b] = value
                    self.assertEqual(changed[0], net[0])
                    self.assertEqual(ways(changed), expected)
                    self.assertEqual([link[:2] for link in changed[1]], [link[:2] for link in net[1]])
            self.assertEqual(net, before)

    def test_literal_nets(self):
        net = (3, [(0, 1, 5, 6), (1, 2, 7, None)])
        self.assertEqual(with_price(net, 0, 1, None), (3, [(0, 1, None, 6), (1, 2, 7, None)]))
        self.assertEqual(with_price(net, 1, 0, 9), (3, [(0, 1, 5, 9), (1, 2, 7, None)]))
        self.assertEqual(with_price(net, 2, 1, TOP), (3, [(0, 1, 5, 6), (1, 2, 7, TOP)]))

    def test_the_net_is_new(self):
        net = sample()
        for value in (5, 9):
            changed = with_price(net, 0, 1, value)
            self.assertIsNot(changed[1], net[1])
            changed[1].clear()
            self.assertEqual(net, sample())
            self.assertEqual(ways(with_price(net, 0, 1, value))[0, 1], value)
            net[1].append((3, 4, 1, 1))
            self.assertEqual(changed[1], [])
            net[1].pop()

    def test_wrong_prices(self):
        for a, b in ways(sample()):
            for bad in BAD_PRICES:
                self.fails(BadPrice, 0, with_price, sample(), a, b, bad)

    def test_no_link(self):
        found = ways(sample())
        for a, b in itertools.product(range(5), repeat=2):
            if (a, b) not in found:
                for value in (1, TOP, None, 0, TOP + 1, -HUGE):
                    self.fails(NoLink, 0, with_price, sample(), a, b, value)

    def test_no_place(self):
        for bad in NO_PLACES:
            for value in (1, TOP, None, 0, TOP + 1):
                for place in range(5):
                    self.fails(NoPlace, bad, with_price, sample(), bad, place, value)
                    self.fails(NoPlace, bad, with_price, sample(), place, bad, value)
                for second in NO_PLACES:
                    self.fails(NoPlace, bad, with_price, sample(), bad, second, value)


class RoadSum(NetCase):
    def check(self, net, road, expected):
        before = copy.deepcopy((net, road))
        self.assertEqual(road_sum(net, road), expected, road)
        self.assertEqual((net, road), before)

    def test_the_empty_list(self):
        for net in (sample(), (1, []), full(40)):
            self.check(net, [], None)

    def test_one_place(self):
        for place in range(5):
            self.check(sample(), [place], 0)
        for bad in NO_PLACES:
            self.check(sample(), [bad], None)
        self.check((1, []), [0], 0)
        self.check((1, []), [1], None)

    def test_roads_in_both_directions(self):
        self.check(sample(), [0, 1], 5)
        self.check(sample(), [1, 0], 6)
        self.check(sample(), [0, 1, 2, 3], 14)
        self.check(sample(), [3, 2, 0, 1], TOP + 12)
        self.check(sample(), [0, 1, 0, 1, 0], 22)
        self.check(sample(), [0, 1, 2, 0], 20)

    def test_a_shut_way(self):
        for road in [[0, 2], [2, 1], [1, 3], [3, 1], [1, 0, 2], [0, 2, 3], [3, 2, 1, 0]]:
            self.check(sample(), road, None)

    def test_places_without_a_link(self):
        for road in [[0, 3], [0, 4], [4, 0], [0, 1, 4], [3, 0, 1]]:
            self.check(sample(), road, None)

    def test_a_place_twice_in_a_row(self):
        for road in [[0, 0], [4, 4], [0, 0, 1], [0, 1, 1], [0, 1, 1, 2]]:
            self.check(sample(), road, None)

    def test_a_place_out_of_range(self):
        for bad in NO_PLACES:
            for road in [[bad, 0], [0, bad], [0, 1, bad], [0, bad, 1], [bad, 0, 1], [bad, bad]]:
                self.check(sample(), road, None)

    def test_all_short_lists(self):
        found = ways(sample())
        for length in range(1, 5):
            for road in itertools.product(range(-1, 6), repeat=length):
                expected = 0 if all(0 <= place < 5 for place in road) else None
                for step in zip(road, road[1:]):
                    cost = found.get(step)
                    expected = None if expected is None or cost is None else expected + cost
                self.check(sample(), list(road), expected)

    def test_a_long_road(self):
        net = (40, [(k, k + 1, TOP, k + 1) for k in range(39)])
        self.check(net, list(range(40)), 39 * TOP)
        self.check(net, list(range(39, -1, -1)), 39 * 40 // 2)
        self.check(net, [0, 1] * 500, 500 * TOP + 499)


if __name__ == "__main__":
    unittest.main()
