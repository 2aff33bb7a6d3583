"""Points 501 to 504 and 506, and points 1 to 4 for overpasses.answers.search."""

import itertools
import random
import unittest

from cases import (HUGE, TOP, Case, full, large_samples, least, least_of_all_roads, least_sums, line, no_places, plus,
                   small_samples, some_net, some_order, star, turned_round, ways_in_order)
from overpasses.answers.search import answer, answers, down_sums, up_sums
from overpasses.errors import NoPlace
from overpasses.filling.fill import fill
from overpasses.labels.prices import without_slack

# From 0 the ways 0, 1, 3 and 0, 2, 3 cost the same; there is no way up to 4, but one down from it.
NET = (5, [(0, 1, 2, 9), (0, 2, 3, 1), (1, 3, 4, 5), (2, 3, 3, 6), (3, 4, None, 2)])
ORDERS = [[0, 1, 2, 3, 4], [0, 2, 1, 3, 4]]


def samples():
    return itertools.chain(small_samples(71, 210), large_samples(72))


def eight_places():
    """Nets of 8 places, with many ties and shut ways."""
    rng = random.Random(73)
    for share, values in [(0.3, [1, 2, None]), (0.5, [1, 2, 3, None, None]), (0.7, [1, 2, 3, 4, 5, 6, 7, None]),
                          (1, [1, 2, 3, TOP, None])]:
        yield some_net(rng, 8, share, values), some_order(rng, 8)


def with_and_without_slack(order, rows):
    return [rows, without_slack(order, rows)]


def sums_by_definition(order, ways):
    """The least sums of ways that all go up, between each two places; None if there are none."""
    sums = {(x, y): 0 if x == y else None for x in order for y in order}
    for x in order:
        for y in order[order.index(x) + 1:]:
            # Each place is taken after all lower ones, so its sum is complete.
            sums[x, y] = least([plus(sums[x, z], ways.get((z, y))) for z in order[:order.index(y)]])
    return sums


def entry(order, sums, ways, place, x):
    if x == place:
        return (0, None)
    if sums[place, x] is None:
        return (None, None)
    fits = [y for y in order[:order.index(x)] if (y, x) in ways and plus(sums[place, y], ways[y, x]) == sums[place, x]]
    return (sums[place, x], fits[0])


def up_by_definition(order, rows, place):
    ways = ways_in_order(rows)
    sums = sums_by_definition(order, ways)
    return [entry(order, sums, ways, place, x) for x in range(len(order))]


def down_by_definition(order, rows, place):
    """Down sums are the up sums with each way turned round."""
    ways = {(y, x): price for (x, y), price in ways_in_order(rows).items()}
    sums = sums_by_definition(order, ways)
    return [entry(order, sums, ways, place, x) for x in range(len(order))]


class Sums(Case):
    def test_a_literal_net(self):
        for order, step in zip(ORDERS, (1, 2)):
            rows = fill(NET, order)
            self.gives([(0, None), (2, 0), (3, 0), (6, step), (None, None)], up_sums, order, rows, 0)
            self.gives([(0, None), (9, 0), (1, 0), (7, 2), (9, 3)], down_sums, order, rows, 0)
            self.gives([(None, None), (None, None), (None, None), (0, None), (None, None)], up_sums, order, rows, 3)
            self.gives([(None, None), (None, None), (None, None), (0, None), (2, 3)], down_sums, order, rows, 3)

    def test_the_place_itself(self):
        for n in (1, 2, 5):
            for place in range(n):
                expected = [(0, None) if x == place else (None, None) for x in range(n)]
                for call in (up_sums, down_sums):
                    self.gives(expected, call, list(range(n)), [], place)
        # The highest place goes up to none, and the lowest one is reached by none.
        self.gives([(None, None), (None, None), (0, None)], up_sums, [0, 1, 2], fill(full(3), [0, 1, 2]), 2)

    def test_shut_ways(self):
        for there, back in itertools.product([7, None], repeat=2):
            rows = fill((2, [(0, 1, there, back)]), [0, 1])
            self.gives([(0, None), (there, 0 if there else None)], up_sums, [0, 1], rows, 0)
            self.gives([(0, None), (back, 0 if back else None)], down_sums, [0, 1], rows, 0)
            rows = fill((2, [(0, 1, back, there)]), [1, 0])
            self.gives([(there, 1 if there else None), (0, None)], up_sums, [1, 0], rows, 1)
            self.gives([(back, 1 if back else None), (0, None)], down_sums, [1, 0], rows, 1)

    def test_the_lowest_place_is_the_step(self):
        # Over each of the places 1 to 4, the way from 0 to 5 and the way back cost 6.
        links = [(0, k, k, k) for k in range(1, 5)] + [(k, 5, 6 - k, 6 - k) for k in range(1, 5)]
        for inner in itertools.permutations(range(1, 5)):
            order = [0, *inner, 5]
            rows = fill((6, links), order)
            self.assertEqual(up_sums(order, rows, 0)[5], (6, inner[0]))
            self.assertEqual(down_sums(order, rows, 0)[5], (6, inner[0]))

    def test_the_definition(self):
        for net, order in itertools.chain(samples(), eight_places()):
            for rows in with_and_without_slack(order, fill(net, order)):
                places = range(net[0]) if net[0] <= 8 else order[::9]
                for place in places:
                    self.gives(up_by_definition(order, rows, place), up_sums, order, rows, place)
                    self.gives(down_by_definition(order, rows, place), down_sums, order, rows, place)

    def test_down_sums_are_the_up_sums_of_the_net_turned_round(self):
        for net, order in samples():
            rows, turned = fill(net, order), fill(turned_round(net), order)
            for place in range(net[0]):
                self.assertEqual(down_sums(order, rows, place), up_sums(order, turned, place))
                self.assertEqual(up_sums(order, rows, place), down_sums(order, turned, place))

    def test_no_place(self):
        for n, rows in [(1, []), (3, []), (5, fill(NET, ORDERS[0]))]:
            for bad in no_places(n):
                self.fails(NoPlace, bad, up_sums, list(range(n)), rows, bad)
                self.fails(NoPlace, bad, down_sums, list(range(n)), rows, bad)


class Answer(Case):
    def test_a_literal_net(self):
        order = ORDERS[0]
        rows = fill(NET, order)
        self.assertEqual(rows, [(0, 1, 2, 9, None, None), (0, 2, 3, 1, None, None), (1, 2, 12, 3, 0, 0),
                                (1, 3, 4, 5, None, None), (2, 3, 3, 6, None, None), (3, 4, None, 2, None, None)])
        for s, t, expected in [(0, 3, (6, 3)), (2, 0, (1, 2)), (1, 0, (9, 1)), (2, 1, (3, 2)), (3, 1, (5, 3)),
                               (4, 0, (9, 4)), (4, 1, (7, 4)), (4, 3, (2, 4)), (0, 4, (None, None))]:
            self.gives(expected, answer, order, rows, s, t)

    def test_a_place_to_itself(self):
        for net, order in samples():
            rows = fill(net, order)
            for place in range(net[0]):
                self.gives((0, place), answer, order, rows, place, place)
                self.gives([0], answers, order, rows, place, [place])

    def test_all_roads(self):
        for net, order in itertools.chain(small_samples(74, 210), eight_places()):
            for order in (order, order[::-1], list(range(net[0]))):
                rows = fill(net, order)
                for s, t in itertools.product(range(net[0]), repeat=2):
                    number = least_of_all_roads(net, s, t)
                    for kept in with_and_without_slack(order, rows):
                        self.assertEqual(answer(order, kept, s, t)[0], number)
                        self.assertEqual(answers(order, kept, s, [t]), [number])

    def test_large_nets(self):
        for net, order in large_samples(75):
            rows = fill(net, order)
            sums = least_sums(net)
            places = list(range(net[0]))
            for s in places:
                self.assertEqual(answers(order, rows, s, places), [sums[s, t] for t in places])
                for t in places[::5]:
                    self.assertEqual(answer(order, rows, s, t)[0], sums[s, t])

    def test_the_lowest_place_is_the_top(self):
        met = 0
        for net, order in itertools.chain(samples(), eight_places()):
            rows = fill(net, order)
            places = list(range(net[0])) if net[0] <= 8 else order[::6]
            ups = {s: up_by_definition(order, rows, s) for s in places}
            downs = {t: down_by_definition(order, rows, t) for t in places}
            for s, t in itertools.product(places, repeat=2):
                sums = [(plus(ups[s][x][0], downs[t][x][0]), x) for x in order]
                number = least(total for total, _ in sums)
                tops = [(total, x) for total, x in sums if total is not None and total == number]
                met += len(tops) > 1
                self.gives(tops[0] if tops else (None, None), answer, order, rows, s, t)
        self.assertGreater(met, 100)

    def test_the_top_of_a_line(self):
        for order in itertools.permutations(range(4)):
            rows = fill(line(4), list(order))
            for s, t in itertools.combinations(range(4), 2):
                top = max(range(s, t + 1), key=order.index)
                self.gives((2 * (t - s), top), answer, list(order), rows, s, t)
                self.gives((3 * (t - s), top), answer, list(order), rows, t, s)

    def test_no_road(self):
        net = (4, [(0, 1, 5, None), (2, 3, None, None)])
        for order in itertools.permutations(range(4)):
            rows = fill(net, list(order))
            for s, t in itertools.permutations(range(4), 2):
                if (s, t) != (0, 1):
                    self.gives((None, None), answer, list(order), rows, s, t)
            self.gives([0, 5, None, None], answers, list(order), rows, 0, [0, 1, 2, 3])
            self.gives([None, 0, None, None], answers, list(order), rows, 1, [0, 1, 2, 3])

    def test_great_sums(self):
        net = (40, [(k, k + 1, TOP, TOP) for k in range(39)])
        for order in (list(range(40)), list(range(39, -1, -1)), list(range(1, 40)) + [0]):
            self.assertEqual(answer(order, fill(net, order), 0, 39)[0], 39 * TOP)
            self.gives([39 * TOP, 20 * TOP], answers, order, fill(net, order), 0, [39, 20])

    def test_answers_of_no_places_and_of_places_twice(self):
        order = ORDERS[1]
        rows = fill(NET, order)
        self.gives([], answers, order, rows, 0, [])
        self.gives([], answers, [0], [], 0, [])
        self.gives([6, 6, 2, None, 0, None, 6, 0], answers, order, rows, 0, [3, 3, 1, 4, 0, 4, 3, 0])
        self.gives([9, 2, 0] * 20, answers, order, rows, 4, [0, 3, 4] * 20)

    def test_answers_and_answer_are_the_same(self):
        for net, order in samples():
            rows = fill(net, order)
            places = order[::3] + order[:2]
            for s in places:
                expected = [answer(order, rows, s, t)[0] for t in places]
                self.gives(expected, answers, order, rows, s, places)

    def test_some_ways_without_a_price(self):
        # Without the slack ways from 1 to 2, the answer leads over 3.
        net = (4, [(0, 1, 5, 5), (0, 2, 5, 5), (1, 2, 9, 9), (1, 3, 1, 1), (2, 3, 1, 1)])
        rows = fill(net, [0, 1, 2, 3])
        self.gives((2, 3), answer, [0, 1, 2, 3], rows, 1, 2)
        kept = without_slack([0, 1, 2, 3], rows)
        self.assertEqual(kept[2], (1, 2, None, None, None, None))
        self.gives((2, 3), answer, [0, 1, 2, 3], kept, 1, 2)
        self.gives([(None, None), (0, None), (None, None), (1, 1)], up_sums, [0, 1, 2, 3], kept, 1)
        self.gives([(None, None), (0, None), (9, 1), (1, 1)], up_sums, [0, 1, 2, 3], rows, 1)

    def test_no_place(self):
        for n, rows in [(1, []), (3, []), (5, fill(NET, ORDERS[0]))]:
            order = list(range(n))
            for bad in no_places(n):
                for other in [0, n - 1, *no_places(n)]:
                    self.fails(NoPlace, bad, answer, order, rows, bad, other)
                    self.fails(NoPlace, bad, answers, order, rows, bad, [other])
                for place in order:
                    self.fails(NoPlace, bad, answer, order, rows, place, bad)
                    self.fails(NoPlace, bad, answers, order, rows, place, [bad])
                self.fails(NoPlace, bad, answers, order, rows, bad, [])
                self.fails(NoPlace, bad, answers, order, rows, 0, [0, bad, HUGE + 1, -3])

    def test_stars(self):
        for order in (list(range(12)), list(range(11, -1, -1)), [5, 0, 7, 1, 2, 3, 4, 6, 8, 9, 10, 11]):
            rows = fill(star(12), order)
            for s in range(1, 12):
                self.gives([0 if s == t else 10 * s + t for t in range(1, 12)], answers, order, rows, s,
                           list(range(1, 12)))


if __name__ == "__main__":
    unittest.main()
