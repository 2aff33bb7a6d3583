"""Points 704 to 708, and points 1 to 4 for overpasses.best.turns."""

import itertools
import random
import unittest

from cases import (HUGE, TOP, Case, full, large_samples, least, least_sums, line, no_places, prices_of, small_samples,
                   some_net, star)
from overpasses.best.turns import answer_with_turns, check_turns, run_sum, turn_net
from overpasses.errors import BadPrice, NoPlace, NoTurn

BAD_PRICES = [-1, -TOP, TOP + 1, 2 ** 32 - 1, HUGE, -HUGE]

# The link of 1 and 2 is shut from 2 to 1. Turning back at 2 is dear, and going on from 0 over 1 to 2 is not allowed.
NET = (4, [(0, 1, 2, 3), (1, 2, 4, None), (1, 3, 5, 5), (2, 3, 1, 1)])
TURNS = {(0, 1, 2): None, (3, 2, 3): 9, (1, 3, 2): 0, (3, 1, 0): TOP}
NODES = [(0, 1), (1, 0), (1, 2), (1, 3), (2, 3), (3, 1), (3, 2)]
ARCS = {
    (0, 1): [((1, 0), 3), ((1, 3), 5)], (1, 0): [((0, 1), 2)], (1, 2): [((2, 3), 1)],
    (1, 3): [((3, 1), 5), ((3, 2), 1)], (2, 3): [((3, 1), 5), ((3, 2), 1)],
    (3, 1): [((1, 0), TOP + 3), ((1, 2), 4), ((1, 3), 5)], (3, 2): [((2, 3), 10)],
}
CERTIFICATE = {(0, 1): 2, (1, 0): 5, (1, 2): 16, (1, 3): 7, (2, 3): 17, (3, 1): 12, (3, 2): 8}


def opened(net):
    return {way: price for way, price in prices_of(net).items() if price is not None}


def turns_of(net):
    """All turns of a net."""
    joined = prices_of(net)
    return sorted((a, b, c) for a, b in joined for x, c in joined if x == b)


def some_turns(rng, net, share, values):
    return {turn: rng.choice(values) for turn in turns_of(net) if rng.random() < share}


def turn_samples(seed, count):
    """Small nets with turns."""
    rng = random.Random(seed)
    for net, _ in small_samples(seed, count):
        yield net, {}
        yield net, some_turns(rng, net, 0.5, [0, 1, 2, None])
        yield net, some_turns(rng, net, 1, [None, None, 0, 1, TOP])


def large_turn_samples(seed):
    rng = random.Random(seed)
    for net, _ in large_samples(seed):
        yield net, some_turns(rng, net, rng.choice([0, 0.1, 0.5]), [0, 1, 5, TOP, None, None])


def sum_by_definition(net, turns, run):
    """Point 705."""
    prices = opened(net)
    if not run or any(place not in range(net[0]) for place in run):
        return None
    steps = list(zip(run, run[1:]))
    bends = [turns.get(bend, 0) for bend in zip(run, run[1:], run[2:])]
    if any(step not in prices for step in steps) or None in bends:
        return None
    return sum(prices[step] for step in steps) + sum(bends)


def best_runs(net, turns, start):
    """For each open way, the least run (sum, number of places, run) from the start that ends with it.

    In each round the best runs so far go on by each way, until none becomes better.
    """
    prices = opened(net)
    best = {way: (price, 2, list(way)) for way, price in prices.items() if way[0] == start}
    changed = True
    while changed:
        changed = False
        for (a, b), (total, count, run) in list(best.items()):
            for (x, c), price in prices.items():
                bend = turns.get((a, b, c), 0)
                if x == b and bend is not None:
                    further = (total + bend + price, count + 1, [*run, c])
                    if (b, c) not in best or further < best[b, c]:
                        best[b, c] = further
                        changed = True
    return best


def all_runs(net, turns, start, most):
    """All runs from the start with at most so many places, with their sums."""
    prices = opened(net)
    layer = [[start]]
    for _ in range(most):
        yield from ((sum_by_definition(net, turns, run), run) for run in layer)
        layer = [[*run, c] for run in layer for c in range(net[0])
                 if (run[-1], c) in prices and turns.get((*run[-2:], c), 0) is not None]


def answer_by_definition(net, turns, start, goal):
    best = best_runs(net, turns, start)
    certificate = {way: best[way][0] if way in best else None for way in sorted(opened(net))}
    ends = [found for way, found in best.items() if way[1] == goal]
    if start == goal:
        return (0, [start], certificate)
    total, _, run = min(ends, default=(None, None, None))
    return (total, run, certificate)


def check_by_definition(net, turns, start, goal, answer):
    """Point 708, test by test."""
    total, run, certificate = answer
    prices = opened(net)
    if set(certificate) != set(prices):
        return False
    for (a, b), price in prices.items():
        number = certificate[a, b]
        if a == start and (number is None or number > price):
            return False
        for (x, c), further in prices.items():
            bend = turns.get((a, b, c), 0)
            if x == b and bend is not None and number is not None:
                if certificate[b, c] is None or certificate[b, c] > number + bend + further:
                    return False
    if start == goal:
        return run == [start] and total == 0
    number = least(certificate[way] for way in prices if way[1] == goal)
    if total is None or run is None:
        return total is None and run is None and number is None
    ends = bool(run) and run[0] == start and run[-1] == goal
    return ends and sum_by_definition(net, turns, run) == total == number


class TurnNet(Case):
    def test_a_literal_net(self):
        self.gives((NODES, ARCS), turn_net, NET, TURNS)

    def test_edges(self):
        self.gives(([], {}), turn_net, (1, []), {})
        self.gives(([], {}), turn_net, (3, []), {})
        self.gives(([], {}), turn_net, (2, [(0, 1, None, None)]), {(0, 1, 0): 5, (1, 0, 1): None})
        self.gives(([(1, 0)], {(1, 0): []}), turn_net, (2, [(0, 1, None, 5)]), {})
        self.gives(([(0, 1), (1, 0)], {(0, 1): [((1, 0), 7)], (1, 0): [((0, 1), 5)]}), turn_net,
                   (2, [(0, 1, 5, 7)]), {})

    def test_prices_of_turns(self):
        net = (2, [(0, 1, 5, TOP)])
        for there, back in itertools.product([0, 1, TOP, None], repeat=2):
            arcs = {(0, 1): [((1, 0), TOP + there)] if there is not None else [],
                    (1, 0): [((0, 1), 5 + back)] if back is not None else []}
            self.gives(([(0, 1), (1, 0)], arcs), turn_net, net, {(0, 1, 0): there, (1, 0, 1): back})
            self.gives(([(0, 1), (1, 0)], arcs), turn_net, net, {(1, 0, 1): back, (0, 1, 0): there})

    def test_turns_over_shut_ways(self):
        # They are turns, since there are links, but they make no arcs.
        net = (3, [(0, 1, None, 4), (1, 2, None, 6)])
        self.gives(([(1, 0), (2, 1)], {(1, 0): [], (2, 1): [((1, 0), 7)]}), turn_net, net,
                   {(0, 1, 2): 8, (2, 1, 0): 3, (1, 0, 1): 9, (1, 2, 1): None, (0, 1, 0): TOP})

    def test_the_definition(self):
        for net, turns in itertools.chain(turn_samples(131, 140), large_turn_samples(132)):
            prices = opened(net)
            nodes = sorted(prices)
            after = {b: [way for way in nodes if way[0] == b] for b in range(net[0])}
            arcs = {(a, b): [((b, c), turns.get((a, b, c), 0) + prices[b, c]) for _, c in after[b]
                             if turns.get((a, b, c), 0) is not None] for a, b in nodes}
            found = turn_net(net, turns)
            self.assertEqual(found, (nodes, arcs))
            if net[0] <= 7:
                self.gives((nodes, arcs), turn_net, net, turns)

    def test_no_turn(self):
        turns = turns_of(NET)
        others = sorted(set(itertools.product(range(4), repeat=3)) - set(turns))
        self.assertIn((0, 1, 0), turns)
        self.assertIn((0, 0, 1), others)
        for key in others:
            for price in [0, 1, None, -1, HUGE]:
                self.fails(NoTurn, 0, turn_net, NET, {key: price})
            expected = sum(turn < key for turn in turns)
            self.fails(NoTurn, expected, turn_net, NET, {**dict.fromkeys(turns, 1), key: 1})
            self.fails(NoTurn, expected, turn_net, NET, {key: 1, **dict.fromkeys(turns[::-1], 1)})
        for bad in no_places(4):
            for key in [(bad, 1, 2), (0, bad, 1), (0, 1, bad), (bad, bad, bad)]:
                self.fails(NoTurn, 0 if key < (0, 1, 2) else 1, turn_net, NET, {(0, 1, 2): 1, key: 0})
        self.fails(NoTurn, 0, turn_net, (1, []), {(0, 0, 0): 0})

    def test_bad_prices(self):
        turns = turns_of(NET)
        for bad in BAD_PRICES:
            for k, key in enumerate(turns):
                self.fails(BadPrice, 0, turn_net, NET, {key: bad})
                self.fails(BadPrice, k, turn_net, NET, {**dict.fromkeys(turns, 0), key: bad})
                self.fails(BadPrice, k, turn_net, NET, {**dict.fromkeys(turns[::-1], TOP), key: bad})
                self.fails(BadPrice, k, turn_net, NET, {**dict.fromkeys(turns[k:], bad), **dict.fromkeys(turns[:k])})

    def test_all_keys_come_ahead_of_all_prices(self):
        self.fails(NoTurn, 1, turn_net, NET, {(0, 1, 0): -1, (0, 2, 3): 1})
        self.fails(NoTurn, 2, turn_net, NET, {(3, 3, 3): 0, (0, 1, 0): -1, (0, 1, 2): 5})
        self.fails(NoTurn, 0, turn_net, NET, {(0, 2, 3): -1, (3, 3, 3): 0})
        self.fails(NoTurn, 0, turn_net, NET, {(3, 3, 3): 0, (0, 2, 3): -1})
        self.fails(BadPrice, 1, turn_net, NET, {(0, 1, 2): -1, (0, 1, 0): 0, (3, 1, 0): -1})


class RunSum(Case):
    def test_a_literal_net(self):
        for run, total in [([0], 0), ([3], 0), ([0, 1], 2), ([0, 1, 3], 7), ([0, 1, 3, 2], 8), ([0, 1, 2], None),
                           ([0, 1, 3, 1, 2], 16), ([3, 2, 3], 11), ([1, 2, 3, 2, 3, 2, 3], 4 + 1 + 1 + 10 + 1 + 10),
                           ([3, 1, 0], TOP + 8), ([0, 1, 0, 1, 0], 10), ([2, 1], None), ([0, 2], None),
                           ([2, 3, 2, 1], None), ([1, 0, 1, 2], None), ([], None), ([1, 1], None), ([0, 0], None)]:
            self.gives(total, run_sum, NET, TURNS, run)

    def test_one_place(self):
        for place in range(4):
            self.gives(0, run_sum, NET, TURNS, [place])
            self.gives(0, run_sum, (4, []), {}, [place])

    def test_a_place_that_does_not_exist(self):
        for bad in no_places(4):
            for run in ([bad], [bad, bad], [bad, 1], [1, bad], [0, 1, bad], [bad, 0, 1], [0, bad, 1]):
                self.gives(None, run_sum, NET, TURNS, run)
                self.gives(None, run_sum, NET, {}, run)

    def test_the_empty_list(self):
        for net in [(1, []), NET]:
            self.gives(None, run_sum, net, {}, [])

    def test_turns_of_a_line(self):
        turns = {(k, k + 1, k + 2): TOP for k in range(38)}
        self.gives(78 + 38 * TOP, run_sum, line(40), turns, list(range(40)))
        self.gives(117, run_sum, line(40), turns, list(range(39, -1, -1)))
        self.gives(None, run_sum, line(40), {**turns, (20, 21, 22): None}, list(range(40)))
        self.gives(None, run_sum, line(40), {(37, 38, 39): None}, list(range(40)))
        self.gives(None, run_sum, line(40), {(0, 1, 2): None}, list(range(40)))
        self.gives(5, run_sum, line(40), {(0, 1, 2): None, (1, 0, 1): None}, [0, 1, 0])

    def test_any_lists(self):
        rng = random.Random(133)
        runs = 0
        for net, turns in turn_samples(134, 140):
            for _ in range(20):
                run = [rng.randrange(net[0]) for _ in range(rng.randrange(6))]
                expected = sum_by_definition(net, turns, run)
                self.gives(expected, run_sum, net, turns, run)
                runs += expected is not None and len(run) > 2
        self.assertGreater(runs, 200)

    def test_all_runs(self):
        for net, turns in turn_samples(135, 56):
            for total, run in all_runs(net, turns, 0, 4):
                self.assertIsNotNone(total)
                self.assertEqual(run_sum(net, turns, run), total)


class AnswerWithTurns(Case):
    def test_a_literal_net(self):
        for goal, total, run in [(0, 0, [0]), (1, 2, [0, 1]), (2, 8, [0, 1, 3, 2]), (3, 7, [0, 1, 3])]:
            self.gives((total, run, CERTIFICATE), answer_with_turns, NET, TURNS, 0, goal)

    def test_edges(self):
        self.gives((0, [0], {}), answer_with_turns, (1, []), {}, 0, 0)
        self.gives((None, None, {}), answer_with_turns, (3, []), {}, 2, 0)
        self.gives((None, None, {(0, 1): None}), answer_with_turns, (2, [(0, 1, 5, None)]), {}, 1, 0)
        self.gives((0, [1], {(0, 1): None}), answer_with_turns, (2, [(0, 1, 5, None)]), {}, 1, 1)
        self.gives((5, [0, 1], {(0, 1): 5}), answer_with_turns, (2, [(0, 1, 5, None)]), {}, 0, 1)
        self.gives((0, [0], {(0, 1): 5}), answer_with_turns, (2, [(0, 1, 5, None)]), {}, 0, 0)

    def test_a_place_twice(self):
        # From 0 to 2 the turn at 1 is not allowed, but it is one that comes back from 3.
        net = (4, [(0, 1, 2, 2), (1, 2, 2, 2), (1, 3, 2, 2)])
        turns = {(0, 1, 2): None}
        self.assertEqual(answer_with_turns(net, turns, 0, 2)[:2], (8, [0, 1, 3, 1, 2]))
        self.assertEqual(answer_with_turns(net, {**turns, (1, 3, 1): 7}, 0, 2)[:2], (15, [0, 1, 3, 1, 2]))
        self.assertEqual(answer_with_turns(net, {**turns, (1, 3, 1): None}, 0, 2)[:2], (None, None))
        # A certificate tells of runs back to the start, too.
        certificate = answer_with_turns((2, [(0, 1, 2, 3)]), {(0, 1, 0): 4}, 0, 1)[2]
        self.assertEqual(certificate, {(0, 1): 2, (1, 0): 9})

    def test_ties(self):
        # Over 1, 2 or 3 for the same price, and over 4 and 5 with a place more.
        links = [(0, 1, 2, 2), (0, 2, 2, 2), (0, 3, 2, 2), (0, 4, 1, 1), (1, 6, 2, 2), (2, 6, 2, 2), (3, 6, 2, 2),
                 (4, 5, 1, 1), (5, 6, 2, 2)]
        for shut, run in [([], [0, 1, 6]), ([1], [0, 2, 6]), ([1, 2], [0, 3, 6]), ([2], [0, 1, 6]),
                          ([1, 2, 3], [0, 4, 5, 6])]:
            turns = {(0, k, 6): None for k in shut}
            self.assertEqual(answer_with_turns((7, links), turns, 0, 6)[:2], (4, run))
            turns = {(0, k, 6): 1 for k in shut}
            self.assertEqual(answer_with_turns((7, links), turns, 0, 6)[:2], (4, run))
        # The first list, where a later place decides, and the ways that end at the goal are others.
        links = [(0, 1, 1, 1), (0, 2, 1, 1), (1, 3, 1, 1), (1, 4, 1, 1), (2, 3, 1, 1), (2, 4, 1, 1), (3, 5, 1, 1),
                 (4, 5, 1, 1)]
        for banned, run in [([], [0, 1, 3, 5]), ([(0, 1, 3)], [0, 1, 4, 5]), ([(1, 3, 5)], [0, 1, 4, 5]),
                            ([(0, 1, 3), (1, 4, 5)], [0, 2, 3, 5]), ([(0, 1, 3), (0, 1, 4), (2, 3, 5)], [0, 2, 4, 5])]:
            turns = dict.fromkeys(banned)
            self.assertEqual(answer_with_turns((6, links), turns, 0, 5)[:2], (3, run))

    def test_the_definition(self):
        for net, turns in turn_samples(136, 140):
            for start, goal in itertools.product(range(net[0]), repeat=2):
                self.gives(answer_by_definition(net, turns, start, goal), answer_with_turns, net, turns, start, goal)

    def test_all_runs(self):
        # A run of the least sum has no open way twice, so these are all that count.
        rng = random.Random(137)
        for _ in range(150):
            net = some_net(rng, 3, 1, [1, 2, None]) if rng.random() < 0.5 else some_net(rng, 4, 0.5, [1, 1, 2, None])
            turns = some_turns(rng, net, 0.6, [0, 1, None])
            most = len(opened(net)) + 1
            for start in range(net[0]):
                runs = list(all_runs(net, turns, start, most)) if most < 10 else []
                for goal in range(net[0]) if runs else []:
                    ranked = min(((total, len(run), run) for total, run in runs if run[-1] == goal), default=None)
                    expected = (ranked[0], ranked[2]) if ranked else (None, None)
                    total, run, certificate = answer_with_turns(net, turns, start, goal)
                    self.assertEqual((total, run), expected)
                    for way, number in certificate.items():
                        self.assertEqual(number, least(s for s, run in runs if tuple(run[-2:]) == way))

    def test_large_nets(self):
        for net, turns in large_turn_samples(138):
            expected = answer_by_definition(net, turns, 3, 8)
            self.assertEqual(answer_with_turns(net, turns, 3, 8), expected)

    def test_without_turns_it_is_the_least_price_of_all_roads(self):
        for net, _ in itertools.chain(small_samples(139, 140), large_samples(140)):
            sums = least_sums(net)
            for start, goal in [(0, net[0] - 1), (net[0] - 1, 0), (net[0] // 2, 0)]:
                self.assertEqual(answer_with_turns(net, {}, start, goal)[0], sums[start, goal])

    def test_a_long_run(self):
        # The run goes through each way between the places 1 to 16 once, from 0 and to 17; all other turns are dear.
        links = [(a, b, 1, 1) for a, b in itertools.combinations(range(1, 17), 2)]
        net = (18, sorted([(0, 1, 1, None), (1, 17, 1, None), *links]))
        run = [0, *through_all_ways(1, 16), 17]
        self.assertEqual(len(run), 16 * 15 + 3)
        free = set(zip(run, run[1:], run[2:]))
        for price in (TOP, None):
            turns = {turn: 0 if turn in free else price for turn in turns_of(net)}
            total, found, certificate = answer_with_turns(net, turns, 0, 17)
            self.assertEqual((total, found), (16 * 15 + 2, run))
            self.assertEqual([certificate[way] for way in zip(run, run[1:])], list(range(1, 16 * 15 + 3)))
            self.assertTrue(check_turns(net, turns, 0, 17, (total, found, certificate)))

    def test_errors_in_their_order(self):
        wrong = {(0, 0, 0): 1, (0, 1, 0): -1}
        for bad in no_places(4):
            for other in [0, 3, *no_places(4)]:
                self.fails(NoPlace, bad, answer_with_turns, NET, wrong, bad, other)
                self.fails(NoPlace, bad, answer_with_turns, NET, TURNS, bad, other)
            for place in range(4):
                self.fails(NoPlace, bad, answer_with_turns, NET, wrong, place, bad)
                self.fails(NoPlace, bad, answer_with_turns, NET, TURNS, place, bad)
        for start, goal in itertools.product(range(4), repeat=2):
            self.fails(NoTurn, 0, answer_with_turns, NET, wrong, start, goal)
            self.fails(NoTurn, 1, answer_with_turns, NET, {(0, 1, 0): -1, (0, 2, 0): 1}, start, goal)
            self.fails(BadPrice, 1, answer_with_turns, NET, {(0, 1, 0): 1, (0, 1, 2): TOP + 1}, start, goal)
            self.fails(BadPrice, 0, answer_with_turns, NET, {(0, 1, 0): -1}, start, goal)


def through_all_ways(first, last):
    """A run from the first place to itself, with each way between the places up to the last one once."""
    left = {a: [b for b in range(first, last + 1) if b != a] for a in range(first, last + 1)}
    stack, run = [first], []
    while stack:
        if left[stack[-1]]:
            stack.append(left[stack[-1]].pop())
        else:
            run.append(stack.pop())
    return run[::-1]


class CheckTurns(Case):
    def passes(self, net, turns, start, goal, answer):
        self.gives(True, check_turns, net, turns, start, goal, answer)

    def refuses(self, net, turns, start, goal, answer):
        self.gives(False, check_turns, net, turns, start, goal, answer)

    def test_right_answers(self):
        for net, turns in turn_samples(141, 140):
            for start, goal in itertools.product(range(net[0]), repeat=2):
                self.passes(net, turns, start, goal, answer_by_definition(net, turns, start, goal))
        for net, turns in large_turn_samples(142):
            for start, goal in [(0, 5), (11, 3), (7, 7)]:
                self.assertTrue(check_turns(net, turns, start, goal, answer_with_turns(net, turns, start, goal)))

    def test_any_run_of_the_least_sum(self):
        # The told run is not asked for.
        ring = (4, [(0, 1, 1, 1), (0, 3, 1, 1), (1, 2, 1, 1), (2, 3, 1, 1)])
        total, run, certificate = answer_with_turns(ring, {}, 0, 2)
        self.assertEqual((total, run), (2, [0, 1, 2]))
        self.passes(ring, {}, 0, 2, (2, [0, 3, 2], certificate))

    def test_a_key_more_or_fewer(self):
        for start, goal in [(0, 2), (0, 0), (0, 3)]:
            total, run, certificate = answer_with_turns(NET, TURNS, start, goal)
            for key in certificate:
                fewer = {way: number for way, number in certificate.items() if way != key}
                self.refuses(NET, TURNS, start, goal, (total, run, fewer))
            for key in [(2, 1), (0, 2), (0, 0), (-1, 0), (0, 4), (3, 4), (HUGE, HUGE), (4, 0)]:
                for number in [None, 0, 5, TOP]:
                    self.refuses(NET, TURNS, start, goal, (total, run, {**certificate, key: number}))
                    for way in certificate:
                        other = {(key if one == way else one): number for one, number in certificate.items()}
                        self.refuses(NET, TURNS, start, goal, (total, run, other))
            self.refuses(NET, TURNS, start, goal, (total, run, {}))
        self.passes((1, []), {}, 0, 0, (0, [0], {}))
        self.refuses((1, []), {}, 0, 0, (0, [0], {(0, 0): 0}))
        self.refuses((2, []), {}, 0, 1, (None, None, {(0, 1): None}))

    def test_the_keys_may_stand_in_any_order(self):
        total, run, certificate = answer_with_turns(NET, TURNS, 0, 2)
        turned = {way: certificate[way] for way in sorted(certificate, reverse=True)}
        self.passes(NET, TURNS, 0, 2, (total, run, turned))

    def test_another_number(self):
        for start, goal in itertools.product(range(4), repeat=2):
            total, run, certificate = answer_with_turns(NET, TURNS, start, goal)
            for way, number in certificate.items():
                changes = [None, 0, -1, 1, TOP, HUGE]
                for value in changes if number is None else [*changes, number - 1, number + 1]:
                    changed = (total, run, {**certificate, way: value})
                    expected = check_by_definition(NET, TURNS, start, goal, changed)
                    self.gives(expected, check_turns, NET, TURNS, start, goal, changed)
        # From 0 to 3: a number that is greater or None is refused everywhere.
        total, run, certificate = answer_with_turns(NET, TURNS, 0, 3)
        for way, number in certificate.items():
            for value in [None, number + 1, HUGE]:
                self.refuses(NET, TURNS, 0, 3, (total, run, {**certificate, way: value}))
        for way in [(0, 1), (1, 3), (3, 2), (2, 3), (3, 1)]:
            self.refuses(NET, TURNS, 0, 3, (total, run, {**certificate, way: certificate[way] - 11}))

    def test_the_bound_of_each_open_way_from_the_start(self):
        # No arc leads to these ways.
        net = (3, [(0, 1, 4, None), (0, 2, 6, None)])
        self.passes(net, {}, 0, 2, (6, [0, 2], {(0, 1): 4, (0, 2): 6}))
        self.passes(net, {}, 0, 2, (6, [0, 2], {(0, 1): 3, (0, 2): 6}))
        for number in (5, None):
            self.refuses(net, {}, 0, 2, (6, [0, 2], {(0, 1): number, (0, 2): 6}))
            self.refuses(net, {}, 0, 0, (0, [0], {(0, 1): number, (0, 2): 6}))
        # Ways from other places may be None, and the arcs from there bind nothing then.
        net = (3, [(0, 1, 4, None), (1, 2, 3, 3)])
        self.passes(net, {}, 1, 0, (None, None, {(0, 1): None, (1, 2): 3, (2, 1): 6}))
        self.passes(net, {}, 1, 0, (None, None, {(0, 1): 50, (1, 2): 3, (2, 1): 6}))
        self.refuses(net, {}, 1, 0, (None, None, {(0, 1): -1, (1, 2): 3, (2, 1): 6}))

    def test_the_bound_of_each_arc(self):
        net = (3, [(0, 1, 4, None), (1, 2, 5, None)])
        for price, bound in [(0, 9), (7, 16), (TOP, TOP + 9)]:
            turns = {(0, 1, 2): price}
            self.passes(net, turns, 0, 2, (bound, [0, 1, 2], {(0, 1): 4, (1, 2): bound}))
            for number in (bound + 1, bound - 1, None):
                self.refuses(net, turns, 0, 2, (bound, [0, 1, 2], {(0, 1): 4, (1, 2): number}))
            self.passes(net, turns, 0, 1, (4, [0, 1], {(0, 1): 4, (1, 2): bound}))
            self.passes(net, turns, 0, 1, (4, [0, 1], {(0, 1): 4, (1, 2): bound - 1}))
            self.refuses(net, turns, 0, 1, (4, [0, 1], {(0, 1): 4, (1, 2): bound + 1}))
            self.refuses(net, turns, 0, 1, (4, [0, 1], {(0, 1): 4, (1, 2): None}))
        turns = {(0, 1, 2): None}
        self.passes(net, turns, 0, 2, (None, None, {(0, 1): 4, (1, 2): None}))
        self.refuses(net, turns, 0, 2, (9, [0, 1, 2], {(0, 1): 4, (1, 2): None}))
        self.refuses(net, turns, 0, 2, (9, [0, 1, 2], {(0, 1): 4, (1, 2): 9}))

    def test_another_sum(self):
        for start, goal in itertools.product(range(4), repeat=2):
            total, run, certificate = answer_with_turns(NET, TURNS, start, goal)
            for other in [None, 0, 1, -1, HUGE] + ([] if total is None else [total - 1, total + 1]):
                if other != total:
                    self.refuses(NET, TURNS, start, goal, (other, run, certificate))

    def test_another_run(self):
        certificate = answer_with_turns(NET, TURNS, 0, 2)[2]
        self.passes(NET, TURNS, 0, 2, (8, [0, 1, 3, 2], certificate))
        for run in [[], [0], [2], [0, 1, 2], [0, 2], [1, 3, 2], [0, 1, 3], [0, 1, 3, 1, 2], [2, 3, 1, 0],
                    [0, 1, 1, 3, 2], [0, 1, 3, 2, 2], [0, 1, 3, 2, 3, 2], [0, 0, 1, 3, 2], [0, 1, 4, 2], [0, -3, 3, 2],
                    [0, 1, 3, HUGE]]:
            self.refuses(NET, TURNS, 0, 2, (8, run, certificate))
            total = sum_by_definition(NET, TURNS, run)
            self.refuses(NET, TURNS, 0, 2, (total, run, certificate))
        # Runs with the right sum, but from or to another place.
        ones = (4, [(a, b, 1, 1) for a, b in itertools.combinations(range(4), 2)])
        total, run, certificate = answer_with_turns(ones, {}, 0, 2)
        self.assertEqual((total, run), (1, [0, 2]))
        for run in ([1, 2], [3, 2], [0, 1], [0, 3], [2, 0], [1, 3]):
            self.refuses(ones, {}, 0, 2, (1, run, certificate))

    def test_the_least_number_of_the_ways_to_the_goal(self):
        # The dearer run has its sum at its last way, but that is not the least number.
        net = (4, [(0, 1, 1, 1), (0, 2, 2, 2), (1, 3, 1, 1), (2, 3, 2, 2)])
        certificate = answer_with_turns(net, {}, 0, 3)[2]
        self.passes(net, {}, 0, 3, (2, [0, 1, 3], certificate))
        self.refuses(net, {}, 0, 3, (4, [0, 2, 3], certificate))
        self.refuses(net, {}, 0, 3, (2, [0, 2, 3], certificate))
        self.refuses(net, {}, 0, 3, (4, [0, 1, 3], certificate))
        # A number below the sum of the run, which all other tests accept.
        net = (2, [(0, 1, 5, None)])
        self.passes(net, {}, 0, 1, (5, [0, 1], {(0, 1): 5}))
        self.refuses(net, {}, 0, 1, (5, [0, 1], {(0, 1): 4}))
        self.refuses(net, {}, 0, 1, (4, [0, 1], {(0, 1): 4}))

    def test_none(self):
        net = (3, [(0, 1, 4, None)])
        self.passes(net, {}, 0, 2, (None, None, {(0, 1): 4}))
        for total, run in [(None, [0, 2]), (None, []), (None, [0]), (4, None), (0, None), (4, [0, 1]), (0, [0])]:
            self.refuses(net, {}, 0, 2, (total, run, {(0, 1): 4}))
        self.passes(net, {}, 1, 0, (None, None, {(0, 1): None}))
        self.passes(net, {}, 0, 1, (4, [0, 1], {(0, 1): 4}))
        for total, run in [(None, [0, 1]), (4, None), (None, None)]:
            self.refuses(net, {}, 0, 1, (total, run, {(0, 1): 4}))
        # A way to the goal has a number, although there is no run.
        net = (3, [(0, 1, 4, None), (1, 2, 3, None)])
        for number in (0, 7, HUGE):
            self.refuses(net, {(0, 1, 2): None}, 0, 2, (None, None, {(0, 1): 4, (1, 2): number}))

    def test_start_and_goal_are_equal(self):
        for net, turns in [((1, []), {}), ((3, []), {}), (NET, TURNS), (full(5), {}), (star(5), {(1, 0, 1): None})]:
            for place in range(net[0]):
                certificate = answer_by_definition(net, turns, place, place)[2]
                self.passes(net, turns, place, place, (0, [place], certificate))
                for total, run in [(None, None), (0, None), (None, [place]), (1, [place]), (-1, [place]), (0, []),
                                   (0, [place, place]), (0, [place + 1]), (0, [-1]), (5, [place, 0, place])]:
                    self.refuses(net, turns, place, place, (total, run, certificate))
                for way, number in certificate.items():
                    if number is not None:
                        for value in (number + 1, None):
                            changed = {**certificate, way: value}
                            expected = check_by_definition(net, turns, place, place, (0, [place], changed))
                            self.gives(expected, check_turns, net, turns, place, place, (0, [place], changed))
        # The run back to the start is a run, but not the answer.
        net = (2, [(0, 1, 2, 3)])
        certificate = {(0, 1): 2, (1, 0): 5}
        self.passes(net, {}, 0, 0, (0, [0], certificate))
        self.refuses(net, {}, 0, 0, (5, [0, 1, 0], certificate))

    def test_changed_at_random(self):
        rng = random.Random(143)
        passed = refused = 0
        for net, turns in turn_samples(144, 490):
            start, goal = rng.randrange(net[0]), rng.randrange(net[0])
            total, run, certificate = answer_with_turns(net, turns, start, goal)
            for _ in range(rng.choice([0, 1, 1, 2])):
                kind = rng.randrange(4)
                if kind == 0:
                    total = rng.choice([None, 0, 1, 2, 3, 4])
                if kind == 1:
                    run = rng.choice([None, [rng.randrange(net[0]) for _ in range(rng.randrange(5))]])
                if kind == 2 and certificate:
                    certificate[rng.choice(sorted(certificate))] = rng.choice([None, 0, 1, 2, 3, 4, 5, 6])
                if kind == 3:
                    goal = rng.randrange(net[0])
            changed = (total, run, certificate)
            expected = check_by_definition(net, turns, start, goal, changed)
            self.gives(expected, check_turns, net, turns, start, goal, changed)
            passed += expected
            refused += not expected
        self.assertGreater(passed, 300)
        self.assertGreater(refused, 300)


if __name__ == "__main__":
    unittest.main()
