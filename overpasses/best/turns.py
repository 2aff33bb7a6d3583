"""Turns with prices, and answers with turns (points 704 to 708)."""

from overpasses.errors import BadPrice, NoTurn
from overpasses.nets.net import HIGHEST_PRICE, check_places, link_ways, open_ways, ways_from
from overpasses.nets.paths import least_paths


def turn_net(net, turns):
    """Returns the nodes of the turn net, and a dict from each node to its arcs."""
    _check_keys(net, turns)
    near = ways_from(net)
    nodes = list(open_ways(net))
    arcs = {}
    for a, b in nodes:
        arcs[(a, b)] = []
        for c, price in near[b]:
            turn = turns.get((a, b, c), 0)
            if turn is not None:
                arcs[(a, b)].append(((b, c), turn + price))
    return (nodes, arcs)


def run_sum(net, turns, run):
    """Returns the sum of a run, None if the list is not a run."""
    if not run or not 0 <= run[0] < net[0]:
        return None
    prices = link_ways(net)
    costs = [prices.get(way) for way in zip(run, run[1:])]
    for turn in zip(run, run[1:], run[2:]):
        costs.append(turns.get(turn, 0))
    return None if None in costs else sum(costs)


def answer_with_turns(net, turns, start, goal):
    """Returns the least sum of a run from start to goal, the told run and the certificate."""
    check_places(net[0], [start, goal])
    nodes, arcs = turn_net(net, turns)
    prices = open_ways(net)
    found = least_paths(arcs, [(node, prices[node]) for node in nodes if node[0] == start])
    certificate = {node: found[node][0] if node in found else None for node in nodes}
    if start == goal:
        return (0, [start], certificate)
    ends = [found[node] for node in nodes if node[1] == goal and node in found]
    if not ends:
        return (None, None, certificate)
    # Lists of ways are in the same order as the runs that they make.
    total, _, path = min(ends)
    return (total, [start] + [node[1] for node in path], certificate)


def check_turns(net, turns, start, goal, answer):
    """Tells whether the certificate shows that the sum and the run answer the question."""
    total, run, certificate = answer
    nodes, arcs = turn_net(net, turns)
    if sorted(certificate) != nodes or not _holds(net, arcs, start, certificate):
        return False
    if start == goal:
        return total == 0 and run == [start]
    numbers = [certificate[node] for node in nodes if node[1] == goal]
    numbers = [number for number in numbers if number is not None]
    if total is None or run is None:
        return total is None and run is None and not numbers
    if run_sum(net, turns, run) != total or run[0] != start or run[-1] != goal:
        return False
    return total == min(numbers, default=None)


def _check_keys(net, turns):
    """Raises an error for the first key that is no turn, or else for the first one with a wrong price."""
    joined = link_ways(net)
    keys = sorted(turns)
    for index, (a, b, c) in enumerate(keys):
        if (a, b) not in joined or (b, c) not in joined:
            raise NoTurn(index)
    for index, key in enumerate(keys):
        if turns[key] is not None and not 0 <= turns[key] <= HIGHEST_PRICE:
            raise BadPrice(index)


def _holds(net, arcs, start, certificate):
    """Tells whether no way from the start and no arc leads to a way for less than its number."""
    for (a, b), price in open_ways(net).items():
        if a == start and not _is_bounded(certificate[(a, b)], price):
            return False
    for node in arcs:
        number = certificate[node]
        for other, price in arcs[node]:
            if number is not None and not _is_bounded(certificate[other], number + price):
                return False
    return True


def _is_bounded(number, bound):
    """Tells whether there is a number, and whether it is at most the bound."""
    return number is not None and number <= bound
