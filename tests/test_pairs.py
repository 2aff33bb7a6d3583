"""Points 202 to 207 and 209, and points 1 to 4 for overpasses.pairs.pairs."""

import itertools
import random
import unittest

from cases import (Case, far_witness, full, large_samples, line, lower_than, no_places, pairs_by_definition,
                   prices_of, small_samples, some_ways, star, witness_by_definition)
from overpasses.errors import NoPair, NoPlace
from overpasses.filling.fill import fill
from overpasses.nets.net import is_net
from overpasses.pairs.pairs import chain, check_pairs, needing, pairs, steps, upper, witness

# The places 0 to 5 with an order that is not that of the numbers; one link is open in one way, one is shut.
NET = (6, [(0, 2, 4, None), (0, 4, 9, 9), (1, 2, 3, 3), (1, 5, None, None), (3, 4, 1, 2)])
ORDER = [2, 4, 1, 5, 0, 3]
PAIRS = [(2, 1), (2, 0), (4, 0), (4, 3), (1, 5), (1, 0), (5, 0), (0, 3)]
WITNESSES = [[2, 1], [2, 0], [4, 0], [4, 3], [1, 5], [1, 2, 0], [5, 1, 2, 0], [0, 4, 3]]


def samples():
    return itertools.chain(small_samples(11, 300), large_samples(12))


def witnesses(net, order):
    return [witness(net, order, u, v) for u, v in pairs(net, order)]


class Pairs(Case):
    def test_the_example(self):
        net = (3, [(0, 1, 5, 5), (0, 2, 7, None)])
        self.gives([(0, 1), (0, 2), (1, 2)], pairs, net, [0, 1, 2])
        self.gives([(1, 0), (0, 2)], pairs, net, [1, 0, 2])
        self.gives([(1, 0), (2, 0)], pairs, net, [1, 2, 0])
        self.gives([(2, 0), (1, 0)], pairs, net, [2, 1, 0])

    def test_a_literal_net(self):
        self.gives(PAIRS, pairs, NET, ORDER)

    def test_nets_without_pairs(self):
        self.gives([], pairs, (1, []), [0])
        self.gives([], pairs, (4, []), [2, 3, 0, 1])

    def test_one_link(self):
        for a, b in itertools.combinations(range(4), 2):
            for order in itertools.permutations(range(4)):
                low, high = (a, b) if order.index(a) < order.index(b) else (b, a)
                self.gives([(low, high)], pairs, (4, [(a, b, None, None)]), list(order))

    def test_stars_and_lines(self):
        # With the centre first, all others are pairs; with the centre last, none of them.
        self.gives(list(itertools.combinations(range(40), 2)), pairs, star(40), list(range(40)))
        self.gives([(k, 0) for k in range(1, 40)], pairs, star(40), list(range(1, 40)) + [0])
        self.gives([(k, k + 1) for k in range(39)], pairs, line(40), list(range(40)))
        self.gives([(k, k - 1) for k in range(39, 0, -1)], pairs, line(40), list(range(39, -1, -1)))

    def test_a_ring(self):
        ring = (40, sorted(line(40)[1] + [(0, 39, None, None)]))
        expected = [(1, 2), (1, 0)]
        for k in range(2, 38):
            expected += [(k, k + 1), (k, 0)]
        expected += [(38, 39), (38, 0), (39, 0)]
        self.gives(expected, pairs, ring, list(range(1, 40)) + [0])

    def test_the_definition(self):
        for net, order in samples():
            self.gives(pairs_by_definition(net, order), pairs, net, order)

    def test_prices_play_no_part(self):
        for (n, links), order in samples():
            for value in (1, None):
                same = (n, [(a, b, value, value) for a, b, _, _ in links])
                self.assertEqual(pairs(same, order), pairs((n, links), order))

    def test_each_link_is_a_pair(self):
        for net, order in samples():
            found = pairs(net, order)
            for a, b in prices_of(net):
                self.assertEqual((a, b) in found, order.index(a) < order.index(b))

    def test_the_order_of_the_pairs(self):
        for net, order in samples():
            found = [(order.index(u), order.index(v)) for u, v in pairs(net, order)]
            self.assertEqual(found, sorted(set(found)))


class Upper(Case):
    def test_a_literal_net(self):
        self.gives([[3], [5, 0], [1, 0], [], [0, 3], [0]], upper, NET, ORDER)

    def test_edges(self):
        self.gives([[]], upper, (1, []), [0])
        self.gives([[], [], []], upper, (3, []), [1, 0, 2])
        self.gives([[1], []], upper, (2, [(0, 1, None, None)]), [0, 1])
        self.gives([[], [0]], upper, (2, [(0, 1, None, None)]), [1, 0])
        self.gives([list(range(k - 1, -1, -1)) for k in range(40)], upper, full(40), list(range(39, -1, -1)))

    def test_the_definition(self):
        for net, order in samples():
            found = pairs_by_definition(net, order)
            expected = [[v for v in order if (u, v) in found] for u in range(net[0])]
            self.gives(expected, upper, net, order)

    def test_any_two_upper_neighbours_are_a_pair(self):
        for net, order in samples():
            found = pairs(net, order)
            for above in upper(net, order):
                self.assertTrue(set(itertools.combinations(above, 2)) <= set(found))


class Steps(Case):
    def test_a_literal_net(self):
        self.gives([3, 5, 1, None, 0, 0], steps, NET, ORDER)

    def test_edges(self):
        self.gives([None], steps, (1, []), [0])
        self.gives([None] * 3, steps, (3, []), [1, 0, 2])
        self.gives([None] + list(range(39)), steps, full(40), list(range(39, -1, -1)))
        self.gives([None] + [0] * 39, steps, star(40), list(range(39, -1, -1)))

    def test_the_lowest_upper_neighbour(self):
        for net, order in samples():
            found = pairs_by_definition(net, order)
            expected = [min([v for u, v in found if u == place], key=order.index, default=None)
                        for place in range(net[0])]
            self.gives(expected, steps, net, order)


class Chain(Case):
    def test_a_literal_net(self):
        self.gives([0, 3], chain, NET, ORDER, 0)
        self.gives([1, 5, 0, 3], chain, NET, ORDER, 1)
        self.gives([2, 1, 5, 0, 3], chain, NET, ORDER, 2)
        self.gives([3], chain, NET, ORDER, 3)
        self.gives([4, 0, 3], chain, NET, ORDER, 4)
        self.gives([5, 0, 3], chain, NET, ORDER, 5)

    def test_edges(self):
        self.gives([0], chain, (1, []), [0], 0)
        self.gives([1], chain, (3, []), [1, 0, 2], 1)
        self.gives(list(range(40)), chain, line(40), list(range(40)), 0)
        self.gives(list(range(39, -1, -1)), chain, full(40), list(range(39, -1, -1)), 39)

    def test_from_step_to_step(self):
        for net, order in samples():
            step = steps(net, order)
            for place in range(net[0]):
                expected = [place]
                while step[expected[-1]] is not None:
                    expected.append(step[expected[-1]])
                self.gives(expected, chain, net, order, place)
                self.assertTrue(set(upper(net, order)[place]) <= set(expected))

    def test_no_place(self):
        for bad in no_places(6):
            self.fails(NoPlace, bad, chain, NET, ORDER, bad)
        for bad in no_places(1):
            self.fails(NoPlace, bad, chain, (1, []), [0], bad)
        for bad in no_places(40):
            self.fails(NoPlace, bad, chain, line(40), list(range(40)), bad)


class NoPairs(Case):
    """What `witness` and `needing` raise for two places that are no pair."""

    def no_pair(self, net, order, u, v):
        for call in (witness, needing):
            self.fails(NoPair, 0, call, net, order, u, v)

    def test_two_places_that_are_no_pair(self):
        for u, v in itertools.product(range(6), repeat=2):
            if (u, v) not in PAIRS:
                self.no_pair(NET, ORDER, u, v)

    def test_a_pair_turned_round(self):
        for net, order in small_samples(13, 70):
            for u, v in pairs(net, order):
                self.no_pair(net, order, v, u)

    def test_all_other_pairs_of_places(self):
        for net, order in small_samples(14, 70):
            found = pairs_by_definition(net, order)
            for u, v in itertools.product(range(net[0]), repeat=2):
                if (u, v) not in found:
                    self.no_pair(net, order, u, v)

    def test_a_place_twice(self):
        for place in range(4):
            self.no_pair(full(4), [2, 0, 1, 3], place, place)
            self.no_pair((4, []), [2, 0, 1, 3], place, place)
        self.no_pair((1, []), [0], 0, 0)

    def test_places_out_of_range(self):
        for bad in no_places(6):
            for place in range(6):
                self.no_pair(NET, ORDER, bad, place)
                self.no_pair(NET, ORDER, place, bad)
            for other in no_places(6):
                self.no_pair(NET, ORDER, bad, other)
        self.no_pair((1, []), [0], 0, 1)
        self.no_pair(line(40), list(range(40)), 39, 40)
        self.no_pair(line(40), list(range(40)), -1, 0)
        # An index of -1 would mean the last place of a list, and this one makes a pair.
        self.no_pair(line(3), [0, 1, 2], 1, -1)


class Witness(Case):
    def test_a_literal_net(self):
        for (u, v), way in zip(PAIRS, WITNESSES):
            self.gives(way, witness, NET, ORDER, u, v)

    def test_the_fewest_links(self):
        # From 0 to 4: over 3 alone, or over 1 and 2, which stand first in the order of lists.
        net = (5, [(0, 1, 1, 1), (0, 3, 9, 9), (1, 2, 1, 1), (2, 4, 1, 1), (3, 4, 9, 9)])
        for order in ([1, 2, 3, 0, 4], [3, 2, 1, 0, 4], [1, 3, 2, 0, 4]):
            self.gives([0, 3, 4], witness, net, order, 0, 4)
        # Place 3 may not be an inner place if it is higher than 0.
        self.gives([0, 1, 2, 4], witness, net, [1, 2, 0, 3, 4], 0, 4)
        self.gives([0, 1, 2, 4], witness, net, [1, 2, 0, 4, 3], 0, 4)

    def test_a_link_is_its_own_witness(self):
        for net, order in samples():
            for a, b in prices_of(net):
                if order.index(a) < order.index(b):
                    self.gives([a, b], witness, net, order, a, b)

    def test_ties_go_to_the_first_list(self):
        # The middles 1, 2 and 3 are equal but for their numbers; their ranks play no part.
        net = (5, [(0, 1, 9, 9), (0, 2, 1, 1), (0, 3, 1, 1), (1, 4, 9, 9), (2, 4, 1, 1), (3, 4, 1, 1)])
        for middles in itertools.permutations([1, 2, 3]):
            self.gives([0, 1, 4], witness, net, [*middles, 0, 4], 0, 4)
            self.gives([4, 1, 0], witness, net, [*middles, 4, 0], 4, 0)
        self.gives([0, 2, 4], witness, net, [3, 2, 0, 1, 4], 0, 4)

    def test_ties_with_several_inner_places(self):
        # From 6 to 7 over one of 0 and 1, and then one of 2 to 5: the first inner place decides first.
        links = [(0, 4, 1, 1), (0, 5, 1, 1), (0, 6, 1, 1), (1, 2, 1, 1), (1, 3, 1, 1), (1, 6, 1, 1),
                 (2, 7, 1, 1), (3, 7, 1, 1), (4, 7, 1, 1), (5, 7, 1, 1)]
        for inner in itertools.permutations(range(6)):
            self.assertEqual(witness((8, links), [*inner, 6, 7], 6, 7), [6, 0, 4, 7])
            # The other way round 2 is the first one, though 0 is less than 1.
            self.assertEqual(witness((8, links), [*inner, 7, 6], 7, 6), [7, 2, 1, 6])

    def test_the_definition_in_small_nets(self):
        for net, order in small_samples(15, 300):
            for u, v in pairs(net, order):
                self.gives(witness_by_definition(net, order, u, v), witness, net, order, u, v)

    def test_the_definition_in_large_nets(self):
        for net, order in large_samples(16):
            for u, v in pairs(net, order):
                self.assertEqual(witness(net, order, u, v), far_witness(net, order, u, v))

    def test_a_long_witness(self):
        order = list(range(1, 39)) + [0, 39]
        self.gives(list(range(40)), witness, line(40), order, 0, 39)
        self.gives(list(range(39, -1, -1)), witness, line(40), order[:38] + [39, 0], 39, 0)


class CheckPairs(Case):
    def passes(self, net, order, found, ways):
        self.gives(True, check_pairs, net, order, found, ways)

    def refuses(self, net, order, found, ways):
        self.gives(False, check_pairs, net, order, found, ways)

    def test_edges(self):
        self.passes((1, []), [0], [], [])
        self.passes((3, []), [1, 2, 0], [], [])
        self.passes(NET, ORDER, PAIRS, WITNESSES)

    def test_the_pairs_with_their_witnesses(self):
        for net, order in samples():
            self.passes(net, order, pairs(net, order), witnesses(net, order))

    def test_the_pairs_in_any_order(self):
        rng = random.Random(17)
        for net, order in samples():
            found = list(zip(pairs(net, order), witnesses(net, order)))
            rng.shuffle(found)
            self.passes(net, order, [pair for pair, _ in found], [way for _, way in found])

    def test_other_ways_of_links(self):
        for net, order in small_samples(18, 100):
            found = pairs(net, order)
            ways = [max(some_ways(net, u, v, lower_than(order, u)), key=lambda way: (len(way), way))
                    for u, v in found]
            self.passes(net, order, found, ways)

    def test_a_place_may_be_in_a_way_twice(self):
        net = (4, [(0, 1, None, 1), (0, 2, 1, 1), (0, 3, 1, 1)])
        found = [(0, 2), (0, 3), (1, 0), (2, 3)]
        self.passes(net, [1, 0, 2, 3], found, [[0, 2], [0, 3], [1, 0], [2, 0, 3]])
        self.passes(net, [1, 0, 2, 3], found, [[0, 2], [0, 3], [1, 0], [2, 0, 1, 0, 3]])
        self.passes(net, [1, 0, 2, 3], found, [[0, 2], [0, 3], [1, 0], [2] + [0, 1] * 50 + [0, 3]])
        # The first and the last place are not lower than the first one, so they are not inner places.
        self.refuses(net, [1, 0, 2, 3], found, [[0, 1, 0, 2], [0, 3], [1, 0], [2, 0, 3]])
        self.refuses(net, [1, 0, 2, 3], found, [[0, 2], [0, 3], [1, 0], [2, 0, 3, 0, 3]])
        self.refuses(net, [1, 0, 2, 3], found, [[0, 2], [0, 3], [1, 0], [2, 0, 2, 0, 3]])

    def test_a_tuple_turned_round(self):
        # All other tests of the point pass.
        self.refuses((2, [(0, 1, 1, 1)]), [0, 1], [(1, 0)], [[1, 0]])
        self.refuses((2, [(0, 1, 1, 1)]), [0, 1], [(0, 1), (1, 0)], [[0, 1], [1, 0]])
        for k, (u, v) in enumerate(PAIRS):
            found = PAIRS[:k] + [(v, u)] + PAIRS[k + 1:]
            self.refuses(NET, ORDER, found, WITNESSES)
            self.refuses(NET, ORDER, found, WITNESSES[:k] + [WITNESSES[k][::-1]] + WITNESSES[k + 1:])

    def test_a_tuple_of_one_place(self):
        for place in range(3):
            self.refuses((3, []), [0, 1, 2], [(place, place)], [[place]])
            self.refuses(line(3), [0, 1, 2], [(0, 1), (1, 2), (place, place)], [[0, 1], [1, 2], [place]])

    def test_a_tuple_twice(self):
        self.refuses((2, [(0, 1, 1, 1)]), [0, 1], [(0, 1), (0, 1)], [[0, 1], [0, 1]])
        for k in range(len(PAIRS)):
            self.refuses(NET, ORDER, PAIRS + [PAIRS[k]], WITNESSES + [WITNESSES[k]])
            self.refuses(NET, ORDER, PAIRS + [PAIRS[k]], WITNESSES)

    def test_a_tuple_left_out(self):
        for k in range(len(PAIRS)):
            self.refuses(NET, ORDER, PAIRS[:k] + PAIRS[k + 1:], WITNESSES[:k] + WITNESSES[k + 1:])
            self.refuses(NET, ORDER, PAIRS[:k] + PAIRS[k + 1:], WITNESSES)
        for net, order in small_samples(19, 50):
            found, ways = pairs(net, order), witnesses(net, order)
            for k in range(len(found)):
                self.refuses(net, order, found[:k] + found[k + 1:], ways[:k] + ways[k + 1:])

    def test_a_link_left_out(self):
        self.refuses((2, [(0, 1, 1, 1)]), [0, 1], [], [])
        self.refuses((2, [(0, 1, None, None)]), [1, 0], [], [])
        self.refuses(line(3), [0, 1, 2], [(0, 1)], [[0, 1]])
        self.refuses(line(3), [0, 1, 2], [(1, 2)], [[1, 2]])

    def test_two_upper_neighbours_that_are_not_joined(self):
        self.refuses(star(3), [0, 1, 2], [(0, 1), (0, 2)], [[0, 1], [0, 2]])
        # The tuple that is left out is one of those that a tuple which is no link asks for.
        net, order = star(4), [0, 1, 2, 3]
        found, ways = pairs(net, order), witnesses(net, order)
        for pair in [(1, 2), (1, 3), (2, 3)]:
            k = found.index(pair)
            self.refuses(net, order, found[:k] + found[k + 1:], ways[:k] + ways[k + 1:])

    def test_a_tuple_that_is_no_pair(self):
        # All ways lead over a higher place, or there is none.
        self.refuses(line(3), [0, 2, 1], [(0, 1), (2, 1), (0, 2)], [[0, 1], [2, 1], [0, 1, 2]])
        self.refuses((2, []), [0, 1], [(0, 1)], [[0, 1]])
        self.refuses((3, []), [0, 1, 2], [(1, 2)], [[1, 0, 2]])
        for net, order in small_samples(20, 100):
            found, ways = pairs(net, order), witnesses(net, order)
            for u, v in itertools.combinations(order, 2):
                if (u, v) not in found:
                    for way in [[], [u], [u, v], *itertools.islice(some_ways(net, u, v, order), 5)]:
                        self.refuses(net, order, found + [(u, v)], ways + [way])

    def test_all_pairs_of_places_are_not_the_pairs(self):
        net, order = line(4), [0, 1, 2, 3]
        every = list(itertools.combinations(range(4), 2))
        self.refuses(net, order, every, [list(range(u, v + 1)) for u, v in every])

    def test_one_way_for_each_tuple(self):
        for k in range(len(WITNESSES)):
            self.refuses(NET, ORDER, PAIRS, WITNESSES[:k] + WITNESSES[k + 1:])
            self.refuses(NET, ORDER, PAIRS, WITNESSES[:k])
            self.refuses(NET, ORDER, PAIRS, WITNESSES + [WITNESSES[k]])
        self.refuses((1, []), [0], [], [[0]])
        self.refuses((1, []), [0], [], [[]])
        self.refuses(line(2), [0, 1], [(0, 1)], [])
        self.refuses(line(2), [0, 1], [(0, 1)], [[0, 1], [0, 1]])

    def test_ways_exchanged(self):
        for j, k in itertools.combinations(range(len(WITNESSES)), 2):
            ways = list(WITNESSES)
            ways[j], ways[k] = ways[k], ways[j]
            self.refuses(NET, ORDER, PAIRS, ways)

    def test_wrong_ways(self):
        for k, (u, v) in enumerate(PAIRS):
            wrong = [[], [u], [v], [v, u], [u, u, v], [u, v, v], [u, u], WITNESSES[k][::-1], WITNESSES[k][:-1],
                     WITNESSES[k][1:], [u] + WITNESSES[k], WITNESSES[k] + [v], WITNESSES[k] + [u, v]]
            for way in wrong:
                if way != WITNESSES[k]:
                    self.refuses(NET, ORDER, PAIRS, WITNESSES[:k] + [way] + WITNESSES[k + 1:])

    def test_a_way_over_places_without_a_link(self):
        net, order = (5, [(0, 3, 1, 1), (1, 3, 1, 1), (1, 4, 1, 1), (2, 4, 1, 1)]), [0, 1, 2, 3, 4]
        found, ways = pairs(net, order), witnesses(net, order)
        self.assertEqual(found[-1], (3, 4))
        self.passes(net, order, found, ways[:-1] + [[3, 1, 4]])
        for way in ([3, 4], [3, 0, 4], [3, 2, 4], [3, 0, 1, 4], [3, 1, 2, 4], [3, 1, 1, 4], [3, 3, 1, 4]):
            self.refuses(net, order, found, ways[:-1] + [way])

    def test_a_way_over_a_higher_place(self):
        # From 0 to 2 by a link; the other way leads over 1, which has the rank between them.
        net = (3, [(0, 1, 1, 1), (0, 2, 1, 1), (1, 2, 1, 1)])
        found = [(0, 1), (0, 2), (1, 2)]
        self.passes(net, [0, 1, 2], found, [[0, 1], [0, 2], [1, 2]])
        self.passes(net, [0, 1, 2], found, [[0, 1], [0, 2], [1, 0, 2]])
        self.refuses(net, [0, 1, 2], found, [[0, 1], [0, 1, 2], [1, 2]])
        self.refuses(net, [0, 1, 2], found, [[0, 2, 1], [0, 2], [1, 2]])

    def test_integers_out_of_range(self):
        for bad in no_places(6):
            for pair in [(bad, 0), (0, bad), (bad, bad), (bad, 3), (2, bad)]:
                for way in ([], list(pair), [pair[0], 2, pair[1]]):
                    self.refuses(NET, ORDER, PAIRS + [pair], WITNESSES + [way])
                    self.refuses(NET, ORDER, [pair] + PAIRS, [way] + WITNESSES)
            for k, (u, v) in enumerate(PAIRS):
                for way in ([bad], [u, bad], [bad, v], [u, bad, v], [u, v, bad], [bad, u, v]):
                    self.refuses(NET, ORDER, PAIRS, WITNESSES[:k] + [way] + WITNESSES[k + 1:])
        for bad in no_places(1):
            self.refuses((1, []), [0], [(0, bad)], [[0, bad]])
            self.refuses((1, []), [0], [(bad, 0)], [[bad, 0]])
        # As an index, -2 would be place 1, which is linked to place 2.
        self.refuses(line(3), [0, 1, 2], [(0, 1), (-2, 2)], [[0, 1], [-2, 2]])
        self.refuses(line(3), [0, 1, 2], [(0, 1), (1, -1)], [[0, 1], [1, -1]])

    def test_what_passes_is_exactly_the_pairs(self):
        """Changed lists pass only if they have the pairs, each with a way over lower places."""
        rng = random.Random(21)
        passed = 0
        for net, order in small_samples(22, 1500):
            found, ways = pairs(net, order), witnesses(net, order)
            for _ in range(rng.choice([0, 1, 2])):
                changed = rng.choice([found, ways])
                k = rng.randrange(len(changed) + 1)
                new = [rng.randrange(net[0]), rng.randrange(net[0])]
                changed[k:k + rng.choice([0, 1])] = [tuple(new) if changed is found else new] * rng.choice([0, 1])
            right = sorted(found) == sorted(pairs_by_definition(net, order)) and len(ways) == len(found) and all(
                way in some_ways(net, u, v, lower_than(order, u)) for (u, v), way in zip(found, ways))
            self.gives(right, check_pairs, net, order, found, ways)
            passed += right
        self.assertGreater(passed, 300)
        self.assertLess(passed, 1300)


class Needing(Case):
    def test_literal_nets(self):
        shut = (None, None)
        self.gives((6, [(0, 2, 1, 1), (0, 4, *shut), (1, 2, 1, 1), (1, 5, 1, 1), (3, 4, *shut)]),
                   needing, NET, ORDER, 5, 0)
        self.gives((6, [(0, 2, *shut), (0, 4, 1, 1), (1, 2, *shut), (1, 5, *shut), (3, 4, 1, 1)]),
                   needing, NET, ORDER, 0, 3)
        self.gives((6, [(0, 2, *shut), (0, 4, *shut), (1, 2, *shut), (1, 5, 1, 1), (3, 4, *shut)]),
                   needing, NET, ORDER, 1, 5)
        self.gives((2, [(0, 1, 1, 1)]), needing, (2, [(0, 1, None, None)]), [1, 0], 1, 0)

    def test_the_definition(self):
        for net, order in samples():
            for u, v in pairs(net, order)[:60]:
                way = far_witness(net, order, u, v)
                steps_of_way = {*zip(way, way[1:]), *zip(way[1:], way)}
                links = [(a, b) + ((1, 1) if (a, b) in steps_of_way else (None, None)) for a, b, _, _ in net[1]]
                self.gives((net[0], links), needing, net, order, u, v)
                self.assertIs(is_net(needing(net, order, u, v)), True)

    def test_the_pair_is_needed(self):
        for net, order in small_samples(23, 200):
            for u, v in pairs(net, order):
                rows = fill(needing(net, order, u, v), order)
                opened = {}
                for low, high, up, down, _, _ in rows:
                    opened[low, high] = up
                    opened[high, low] = down
                self.assertEqual(opened[u, v], len(witness(net, order, u, v)) - 1)
                # No other pair leads upward from u, and without this one v is not reached.
                self.assertEqual([high for low, high, up, *_ in rows if low == u and up is not None], [v])
                self.assertTrue(self.meets(order, opened, u, v))
                del opened[u, v]
                self.assertFalse(self.meets(order, opened, u, v))

    def meets(self, order, opened, start, stop):
        """Whether ways that lead up from start and ways that lead down to stop meet at a place."""
        up, down = {start}, {stop}
        for place in order:
            for other in order[order.index(place) + 1:]:
                if place in up and opened.get((place, other)) is not None:
                    up.add(other)
                if place in down and opened.get((other, place)) is not None:
                    down.add(other)
        return bool(up & down)


if __name__ == "__main__":
    unittest.main()
