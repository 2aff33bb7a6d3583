"""Points 604 to 607, and points 1 to 4 for overpasses.labels.labels."""

import itertools
import random
import unittest

from cases import (HUGE, TOP, Case, full, large_samples, least, least_of_all_roads, least_sums, line, plus,
                   simple_roads, small_samples, some_net, some_order, star, turned_round)
from overpasses.answers.search import answer, down_sums, up_sums
from overpasses.filling.fill import fill
from overpasses.labels.labels import label_answer, label_size, labels

# A line 0, 1, 2 with a shut way back from 2.
NET = (3, [(0, 1, 4, 6), (1, 2, 5, None)])


def samples():
    return itertools.chain(small_samples(111, 300), large_samples(112))


def eight_places():
    rng = random.Random(113)
    for share in (0.2, 0.4, 0.7):
        yield some_net(rng, 8, share, [1, 2, 3, None]), some_order(rng, 8)


def labels_by_all_roads(net, order):
    """Point 604 for a small net."""
    n = net[0]
    forward = [[] for _ in range(n)]
    backward = [[] for _ in range(n)]
    for v, x in itertools.product(range(n), repeat=2):
        for label, found in ((forward[v], simple_roads(net, v, x)), (backward[v], simple_roads(net, x, v))):
            price = min(found)[0] if found else None
            best = [road for total, road in found if total == price]
            if best and all(order.index(place) <= order.index(x) for road in best for place in road):
                label.append((x, price))
    return forward, backward


def labels_by_sums(net, order):
    """Point 604: a place is on a road of the least price if the least prices to it and from it add up."""
    n = net[0]
    sums = least_sums(net)
    forward = [[] for _ in range(n)]
    backward = [[] for _ in range(n)]
    for v, x in itertools.product(range(n), repeat=2):
        higher = order[order.index(x) + 1:]
        for label, (a, b) in ((forward[v], (v, x)), (backward[v], (x, v))):
            if sums[a, b] is not None and all(plus(sums[a, h], sums[h, b]) != sums[a, b] for h in higher):
                label.append((x, sums[a, b]))
    return forward, backward


def unless_bound(price, bound):
    """The price if it is less than the bound, if there is one; else None."""
    return None if price is None or bound is not None and bound <= price else price


class Labels(Case):
    def test_a_literal_net(self):
        for order, forward, backward in [
            ([0, 1, 2], [[(0, 0), (1, 4), (2, 9)], [(1, 0), (2, 5)], [(2, 0)]], [[(0, 0), (1, 6)], [(1, 0)], [(2, 0)]]),
            ([0, 2, 1], [[(0, 0), (1, 4)], [(1, 0)], [(2, 0)]], [[(0, 0), (1, 6)], [(1, 0)], [(1, 5), (2, 0)]]),
            ([1, 2, 0], [[(0, 0)], [(0, 6), (1, 0), (2, 5)], [(2, 0)]], [[(0, 0)], [(0, 4), (1, 0)], [(0, 9), (2, 0)]]),
        ]:
            self.gives((forward, backward), labels, order, fill(NET, order))

    def test_edges(self):
        self.gives(([[(0, 0)]], [[(0, 0)]]), labels, [0], [])
        alone = [[(0, 0)], [(1, 0)], [(2, 0)]]
        self.gives((alone, alone), labels, [2, 0, 1], [])
        for up, down in itertools.product([1, TOP, None], repeat=2):
            forward = [[(0, 0)] + [(1, up)] * (up is not None), [(1, 0)]]
            backward = [[(0, 0)] + [(1, down)] * (down is not None), [(1, 0)]]
            self.gives((forward, backward), labels, [0, 1], [(0, 1, up, down, None, None)])

    def test_ties(self):
        # From 0 to 2 over the higher place 3 for the same price: the entry is left out.
        for price, label in [(5, [(0, 0), (2, 5), (3, 3)]), (6, [(0, 0), (3, 3)]), (7, [(0, 0), (3, 3)])]:
            net = (4, [(0, 2, price, None), (0, 3, 3, None), (2, 3, None, 3)])
            self.assertEqual(labels([0, 1, 2, 3], fill(net, [0, 1, 2, 3]))[0][0], label)
        # Over the lower place 1 for the same price: the entry stays.
        net = (3, [(0, 1, 3, None), (0, 2, 6, None), (1, 2, 3, None)])
        self.assertEqual(labels([1, 0, 2], fill(net, [1, 0, 2]))[0][0], [(0, 0), (2, 6)])
        self.assertEqual(labels([0, 1, 2], fill(net, [0, 1, 2]))[0][0], [(0, 0), (1, 3), (2, 6)])
        # The same for roads back.
        for price, label in [(5, [(0, 0), (2, 5), (3, 3)]), (6, [(0, 0), (3, 3)])]:
            net = (4, [(0, 2, None, price), (0, 3, None, 3), (2, 3, 3, None)])
            self.assertEqual(labels([0, 1, 2, 3], fill(net, [0, 1, 2, 3]))[1][0], label)

    def test_all_roads(self):
        for net, order in itertools.chain(small_samples(114, 300), eight_places()):
            self.gives(labels_by_all_roads(net, order), labels, order, fill(net, order))

    def test_large_nets(self):
        for net, order in large_samples(115):
            self.gives(labels_by_sums(net, order), labels, order, fill(net, order))

    def test_ascending_with_the_place_itself(self):
        for net, order in samples():
            for side in labels(order, fill(net, order)):
                self.assertEqual(len(side), net[0])
                for v, label in enumerate(side):
                    self.assertIn((v, 0), label)
                    self.assertEqual(sorted({x for x, _ in label}), [x for x, _ in label])

    def test_backward_labels_are_the_forward_labels_of_the_net_turned_round(self):
        for net, order in samples():
            forward, backward = labels(order, fill(net, order))
            self.assertEqual(labels(order, fill(turned_round(net), order)), (backward, forward))

    def test_up_sums_and_higher_entries(self):
        # Point 607.
        for net, order in samples():
            rows = fill(net, order)
            forward, backward = labels(order, rows)
            others = list(map(dict, backward))
            for v in range(net[0]):
                ups, label = up_sums(order, rows, v), dict(forward[v])
                downs, back = down_sums(order, rows, v), dict(backward[v])
                for x in range(net[0]):
                    higher = order[order.index(x) + 1:]
                    bound = least(plus(label.get(h), others[x].get(h)) for h in higher)
                    self.assertEqual(label.get(x), unless_bound(ups[x][0], bound))
                    bound = least(plus(dict(forward[x]).get(h), back.get(h)) for h in higher)
                    self.assertEqual(back.get(x), unless_bound(downs[x][0], bound))

    def test_each_entry_is_needed(self):
        # Point 606: without the entry, the labels give a greater answer, or none.
        for net, order in samples():
            forward, backward = labels(order, fill(net, order))
            for v in range(net[0]):
                for k, (x, price) in enumerate(forward[v]):
                    self.assertEqual(label_answer(forward[v], backward[x]), price)
                    self.assertNotEqual(label_answer(forward[v][:k] + forward[v][k + 1:], backward[x]), price)
                for k, (x, price) in enumerate(backward[v]):
                    self.assertEqual(label_answer(forward[x], backward[v]), price)
                    self.assertNotEqual(label_answer(forward[x], backward[v][:k] + backward[v][k + 1:]), price)


class LabelAnswer(Case):
    def test_every_question_of_small_nets(self):
        for net, order in itertools.chain(small_samples(116, 300), eight_places()):
            forward, backward = labels(order, fill(net, order))
            for s, t in itertools.product(range(net[0]), repeat=2):
                self.gives(least_of_all_roads(net, s, t), label_answer, forward[s], backward[t])

    def test_every_question_of_large_nets(self):
        for net, order in large_samples(117):
            rows = fill(net, order)
            forward, backward = labels(order, rows)
            sums = least_sums(net)
            for s, t in itertools.product(range(net[0]), repeat=2):
                self.assertEqual(label_answer(forward[s], backward[t]), sums[s, t])
            for s, t in itertools.product(order[::7], repeat=2):
                self.assertEqual(label_answer(forward[s], backward[t]), answer(order, rows, s, t)[0])

    def test_empty_labels(self):
        for label in ([], [(0, 0)], [(0, 5), (3, TOP)]):
            self.gives(None, label_answer, [], label)
            self.gives(None, label_answer, label, [])

    def test_nothing_in_common(self):
        self.gives(None, label_answer, [(0, 1)], [(1, 1)])
        self.gives(None, label_answer, [(0, 1), (2, 1), (4, 1)], [(1, 1), (3, 1), (5, 1)])
        self.gives(None, label_answer, [(0, 1), (1, 1)], [(2, 1), (3, 1)])
        self.gives(None, label_answer, [(2, 1), (3, 1)], [(0, 1), (1, 1)])

    def test_any_labels(self):
        self.gives(0, label_answer, [(3, 0)], [(3, 0)])
        self.gives(7, label_answer, [(1, 3), (2, 9)], [(1, 4), (2, 0)])
        self.gives(8, label_answer, [(1, 3), (2, 8)], [(1, 6), (2, 0)])
        self.gives(2 * TOP, label_answer, [(0, 1), (39, TOP)], [(1, 1), (39, TOP)])
        self.gives(HUGE + 1, label_answer, [(HUGE, HUGE)], [(HUGE, 1)])
        rng = random.Random(118)
        for _ in range(500):
            forward, backward = ([(x, rng.randrange(9)) for x in range(6) if rng.random() < 0.5] for _ in range(2))
            sums = [p + q for (x, p), (y, q) in itertools.product(forward, backward) if x == y]
            self.gives(min(sums, default=None), label_answer, forward, backward)

    def test_the_same_list(self):
        for label, expected in [([], None), ([(0, 4)], 8), ([(0, 4), (1, 3), (5, 9)], 6)]:
            self.assertEqual(label_answer(label, label), expected)

    def test_labels_from_which_entries_were_left_out(self):
        for order in ([0, 1, 2, 3], [3, 1, 2, 0]):
            forward, backward = labels(order, fill(line(4), order))
            for s, t in itertools.product(range(4), repeat=2):
                for kept in itertools.product([False, True], repeat=len(forward[s])):
                    label = list(itertools.compress(forward[s], kept))
                    expected = least(p + q for x, p in label for y, q in backward[t] if x == y)
                    self.gives(expected, label_answer, label, backward[t])


class LabelSize(Case):
    def test_literal_labels(self):
        self.gives(0, label_size, ([], []))
        self.gives(0, label_size, ([[], []], [[], []]))
        self.gives(1, label_size, ([[(0, 0)], []], [[], []]))
        self.gives(4, label_size, ([[], [(0, 5)]], [[(0, 0), (1, 2)], [(1, 0)]]))

    def test_labels_of_nets(self):
        for order, size in [([0, 1, 2], 10), ([0, 2, 1], 9), ([1, 2, 0], 10)]:
            found = labels(order, fill(NET, order))
            self.assertEqual(size, sum(len(label) for side in found for label in side))
            self.gives(size, label_size, found)
        self.gives(80, label_size, labels(list(range(40)), []))
        # All places of a line know the higher ones behind them.
        self.gives(40 * 41 // 2 * 2, label_size, labels(list(range(40)), fill(line(40), list(range(40)))))
        self.gives(40 + 40 + 39 * 2, label_size, labels([*range(1, 40), 0], fill(star(40), [*range(1, 40), 0])))

    def test_full_nets(self):
        order = list(range(20))
        found = labels(order, fill(full(20), order))
        self.gives(sum(map(len, found[0] + found[1])), label_size, found)


if __name__ == "__main__":
    unittest.main()
