"""Points 507 and 508, and points 1 to 4 for overpasses.answers.papers."""

import itertools
import random
import unittest

from cases import (HUGE, TOP, Case, full, large_samples, least_of_all_roads, least_sums, line, no_places, prices_of,
                   simple_roads, small_samples, some_net, star)
from overpasses.answers.papers import check_answer, paper
from overpasses.answers.roads import answer_road
from overpasses.answers.search import answer
from overpasses.errors import NoPlace
from overpasses.filling.fill import fill

# From 0 to 3 the road over 1 costs 6; 4 can be left, but not be reached.
NET = (5, [(0, 1, 2, 9), (0, 2, 3, 1), (1, 3, 4, 5), (2, 3, 4, 6), (3, 4, None, 2)])
PAPER = [0, 2, 3, 6, None]


def samples():
    return itertools.chain(small_samples(91, 210), large_samples(92))


def check_by_definition(net, start, stop, number, road, sheet):
    """Point 508, test by test."""
    opened = {way: price for way, price in prices_of(net).items() if price is not None}
    if len(sheet) != net[0] or sheet[start] != 0:
        return False
    for (a, b), price in opened.items():
        if sheet[a] is not None and (sheet[b] is None or sheet[b] > sheet[a] + price):
            return False
    if number is None:
        return road is None and sheet[stop] is None
    if not road or road[0] != start or road[-1] != stop:
        return False
    steps = list(zip(road, road[1:]))
    return all(step in opened for step in steps) and number == sum(opened[step] for step in steps) == sheet[stop]


class Paper(Case):
    def test_a_literal_net(self):
        self.gives(PAPER, paper, NET, 0)
        self.gives([7, 5, 6, 0, None], paper, NET, 3)
        self.gives([9, 7, 8, 2, 0], paper, NET, 4)

    def test_edges(self):
        self.gives([0], paper, (1, []), 0)
        self.gives([None, None, 0, None], paper, (4, []), 2)
        self.gives([None, 0], paper, (2, [(0, 1, 5, None)]), 1)
        self.gives([0, 5], paper, (2, [(0, 1, 5, None)]), 0)
        self.gives([k * TOP for k in range(40)], paper, (40, [(k, k + 1, TOP, None) for k in range(39)]), 0)
        self.gives([3 * k for k in range(39, -1, -1)], paper, line(40), 39)
        self.gives([70, *[70 + k if k != 7 else 0 for k in range(1, 40)]], paper, star(40), 7)

    def test_all_roads(self):
        rng = random.Random(93)
        eight = [(some_net(rng, 8, share, [1, 2, 3, 9, None]), None) for share in (0.3, 0.6, 0.8)]
        for net, _ in itertools.chain(small_samples(94, 210), eight):
            for place in range(net[0]):
                expected = [least_of_all_roads(net, place, other) for other in range(net[0])]
                self.gives(expected, paper, net, place)

    def test_large_nets(self):
        for net, order in large_samples(95):
            sums = least_sums(net)
            for place in order[::3]:
                self.gives([sums[place, other] for other in range(net[0])], paper, net, place)

    def test_no_place(self):
        for net in [(1, []), (3, []), NET]:
            for bad in no_places(net[0]):
                self.fails(NoPlace, bad, paper, net, bad)


class CheckAnswer(Case):
    def passes(self, *args):
        self.gives(True, check_answer, *args)

    def refuses(self, *args):
        self.gives(False, check_answer, *args)

    def test_a_literal_net(self):
        self.passes(NET, 0, 3, 6, [0, 1, 3], PAPER)
        self.passes(NET, 0, 1, 2, [0, 1], PAPER)
        self.passes(NET, 0, 4, None, None, PAPER)
        self.passes(NET, 0, 0, 0, [0], PAPER)
        self.passes((1, []), 0, 0, 0, [0], [0])

    def test_right_answers(self):
        for net, order in samples():
            rows = fill(net, order)
            places = order if net[0] <= 8 else order[::6]
            for s, t in itertools.product(places, repeat=2):
                self.passes(net, s, t, answer(order, rows, s, t)[0], answer_road(order, rows, s, t), paper(net, s))

    def test_each_road_of_the_least_price(self):
        for net, _ in small_samples(96, 140):
            for s, t in itertools.product(range(net[0]), repeat=2):
                number = least_of_all_roads(net, s, t)
                for total, road in simple_roads(net, s, t):
                    self.gives(total == number, check_answer, net, s, t, number, road, paper(net, s))
                    self.gives(total == number, check_answer, net, s, t, total, road, paper(net, s))

    def test_a_paper_with_an_element_more_or_fewer(self):
        for stop, number, road in [(3, 6, [0, 1, 3]), (4, None, None), (0, 0, [0]), (1, 2, [0, 1])]:
            for sheet in ([], PAPER[:1], PAPER[:2], PAPER[:4], PAPER[1:], PAPER + [None], PAPER + [0], PAPER * 2):
                self.refuses(NET, 0, stop, number, road, sheet)
        self.refuses((1, []), 0, 0, 0, [0], [])
        self.refuses((1, []), 0, 0, 0, [0], [0, None])

    def test_another_element_of_the_paper(self):
        for k in range(4):
            for value in [None, PAPER[k] - 1, PAPER[k] + 1, -1, TOP, HUGE, -HUGE]:
                sheet = PAPER[:k] + [value] + PAPER[k + 1:]
                expected = check_by_definition(NET, 0, 3, 6, [0, 1, 3], sheet)
                self.gives(expected, check_answer, NET, 0, 3, 6, [0, 1, 3], sheet)
                # Only the number of the place 2 may be less: no test asks for more than that.
                self.assertEqual(expected, k == 2 and value == 2)
        for value in [-1, 1, None, HUGE]:
            self.refuses(NET, 0, 0, 0, [0], [value, 2, 3, 6, None])
            self.refuses(NET, 0, 4, None, None, [value, 2, 3, 6, None])
            self.refuses((1, []), 0, 0, 0, [0], [value])
            self.refuses((1, []), 0, 0, value, [0], [value])
        # With a number for 4, the answer None is refused, and so is a way from 4 that is too cheap.
        for value in [0, 3, 4, 5, 100]:
            self.refuses(NET, 0, 4, None, None, PAPER[:4] + [value])
            self.gives(value >= 4, check_answer, NET, 0, 3, 6, [0, 1, 3], PAPER[:4] + [value])

    def test_the_bound_of_each_open_way(self):
        # The number of 2 is bound by the way from 0 alone, that of 1 by the way from 2 alone.
        net = (3, [(0, 2, 3, 9), (1, 2, None, 4)])
        self.passes(net, 0, 1, 7, [0, 2, 1], [0, 7, 3])
        self.refuses(net, 0, 1, 7, [0, 2, 1], [0, 7, 4])
        self.refuses(net, 0, 1, 7, [0, 2, 1], [0, 7, None])
        self.refuses(net, 0, 1, 7, [0, 2, 1], [0, 7, 2])
        self.refuses(net, 0, 2, 3, [0, 2], [0, 8, 3])
        self.refuses(net, 0, 2, 3, [0, 2], [0, None, 3])
        self.passes(net, 0, 2, 3, [0, 2], [0, 6, 3])
        self.refuses(net, 0, 0, 0, [0], [0, 8, 3])
        self.refuses(net, 0, 0, 0, [0], [0, 7, 4])
        # Shut ways, and ways from a place without a number, bind nothing.
        net = (4, [(0, 1, None, 5), (2, 3, 7, 7)])
        self.passes(net, 0, 1, None, None, [0, None, None, None])
        self.passes(net, 0, 1, None, None, [0, None, 1, 8])
        self.refuses(net, 0, 1, None, None, [0, None, 1, 9])
        self.refuses(net, 0, 1, None, None, [0, None, 1, None])
        self.refuses(net, 0, 1, None, None, [0, None, None, 1])

    def test_another_road(self):
        for road in [[], [0], [3], [0, 3], [1, 3], [0, 1], [0, 2, 3], [0, 1, 1, 3], [0, 0, 1, 3], [0, 1, 3, 3],
                     [0, 1, 3, 1, 3], [3, 1, 0], [0, 1, 2, 3], [0, 1, 4], [2, 1, 3], [0, 2, 0, 1, 3], [0, 3, 1],
                     [0, 1, 3, 4]]:
            self.refuses(NET, 0, 3, 6, road, PAPER)
        for bad in no_places(5):
            for road in ([bad, 1, 3], [0, bad, 3], [0, 1, bad], [0, 1, bad, 3], [bad], [bad, bad]):
                self.refuses(NET, 0, 3, 6, road, PAPER)
        self.refuses(NET, 0, 0, 0, [], PAPER)
        self.refuses(NET, 0, 0, 0, [1], PAPER)
        self.refuses(NET, 0, 0, 0, [0, 0], PAPER)
        self.refuses(NET, 0, 0, 11, [0, 1, 0], PAPER)

    def test_a_road_of_the_answer_between_other_places(self):
        # Each link costs 2, so that the road [1, 2] has the sum of the answer from 0 to 1.
        net = line(4)
        self.passes(net, 0, 1, 2, [0, 1], [0, 2, 4, 6])
        self.refuses(net, 0, 1, 2, [1, 2], [0, 2, 4, 6])
        self.refuses(net, 0, 2, 4, [1, 2, 3], [0, 2, 4, 6])
        ring = (3, [(0, 1, 2, 2), (0, 2, 2, 2), (1, 2, 2, 2)])
        self.passes(ring, 0, 1, 2, [0, 1], [0, 2, 2])
        self.refuses(ring, 0, 1, 2, [2, 1], [0, 2, 2])
        self.refuses(ring, 0, 1, 2, [0, 2], [0, 2, 2])
        self.refuses(ring, 0, 0, 0, [1], [0, 2, 2])

    def test_a_road_over_a_shut_way(self):
        net = (3, [(0, 1, 2, None), (1, 2, 3, None)])
        self.passes(net, 0, 2, 5, [0, 1, 2], [0, 2, 5])
        for shut in [(3, [(0, 1, None, 2), (1, 2, 3, None)]), (3, [(0, 1, 2, None), (1, 2, None, 3)])]:
            self.refuses(shut, 0, 2, 5, [0, 1, 2], [0, 2, 5])
        self.refuses(net, 1, 0, 2, [1, 0], [2, 0, 3])

    def test_another_answer(self):
        for number in [None, 0, 5, 7, -6, HUGE]:
            self.refuses(NET, 0, 3, number, [0, 1, 3], PAPER)
            self.refuses(NET, 0, 3, number, None, PAPER)
        self.refuses(NET, 0, 3, 6, None, PAPER)
        for number in [None, 1, -1]:
            self.refuses(NET, 0, 0, number, [0], PAPER)
        # A dearer road, with its own sum.
        self.refuses(NET, 0, 3, 7, [0, 2, 3], PAPER)
        self.refuses(NET, 0, 3, 7, [0, 2, 3], [0, 2, 3, 7, None])
        # The paper has a lower number than the road.
        net = (2, [(0, 1, 5, 5)])
        self.refuses(net, 0, 1, 5, [0, 1], [0, 4])
        self.refuses(net, 0, 1, 4, [0, 1], [0, 4])

    def test_none(self):
        self.passes(NET, 0, 4, None, None, PAPER)
        for number, road in itertools.product([None, 0, 8], [None, [], [0], [0, 4], [0, 1, 3, 4], [4]]):
            if (number, road) != (None, None):
                self.refuses(NET, 0, 4, number, road, PAPER)
        self.refuses(NET, 0, 0, None, None, PAPER)
        self.refuses(NET, 0, 3, None, None, PAPER)
        self.refuses(NET, 0, 3, None, None, [0, 2, 3, None, None])

    def test_changed_at_random(self):
        rng = random.Random(97)
        passed = 0
        for net, order in small_samples(98, 1500):
            rows = fill(net, order)
            s, t = rng.randrange(net[0]), rng.randrange(net[0])
            number, road, sheet = answer(order, rows, s, t)[0], answer_road(order, rows, s, t), paper(net, s)
            for _ in range(rng.choice([0, 1, 1, 2])):
                kind = rng.randrange(4)
                if kind == 0:
                    number = rng.choice([None, 0, 1, 2, 3, 4, 5])
                if kind == 1:
                    sheet[rng.randrange(net[0])] = rng.choice([None, 0, 1, 2, 3, 4, 5])
                if kind == 2:
                    t = rng.randrange(net[0])
                if kind == 3:
                    road = [rng.randrange(-1, net[0] + 1) for _ in range(rng.randrange(4))] or None
            expected = check_by_definition(net, s, t, number, road, sheet)
            self.gives(expected, check_answer, net, s, t, number, road, sheet)
            passed += expected
        self.assertGreater(passed, 300)
        self.assertLess(passed, 1200)

    def test_no_place(self):
        for net in [(1, []), (3, []), NET]:
            n = net[0]
            sheet = paper(net, 0)
            for bad in no_places(n):
                for other in [0, n - 1, *no_places(n)]:
                    self.fails(NoPlace, bad, check_answer, net, bad, other, 0, [bad], sheet)
                for place in range(n):
                    self.fails(NoPlace, bad, check_answer, net, place, bad, None, None, sheet)
                self.fails(NoPlace, bad, check_answer, net, 0, bad, 0, [0], [])
                self.fails(NoPlace, bad, check_answer, net, bad, 0, None, [], [])

    def test_a_full_net(self):
        net, order = full(40), list(range(40))
        rows = fill(net, order)
        sheet = paper(net, 17)
        for t in range(40):
            number, road = answer(order, rows, 17, t)[0], answer_road(order, rows, 17, t)
            self.assertTrue(check_answer(net, 17, t, number, road, sheet))
            self.assertFalse(check_answer(net, 17, t, number + 1, road, sheet))


if __name__ == "__main__":
    unittest.main()
