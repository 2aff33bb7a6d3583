"""The best roads between two places (points 701 to 703)."""

from heapq import heappop, heappush

from overpasses.errors import OutOfRange
from overpasses.nets.net import check_places, road_sum, ways_from
from overpasses.nets.paths import least_paths

MOST_ROADS = 8


def best_roads(net, start, goal, count):
    """Returns the first `count` simple roads from start to goal, with their sums."""
    check_places(net[0], [start, goal])
    if not 1 <= count <= MOST_ROADS:
        raise OutOfRange(count)
    if start == goal:
        return [(0, [start])]
    near = ways_from(net)
    candidates = _candidates(net, near, goal, [start], [])
    found = []
    while candidates and len(found) < count:
        total, _, road, prefix, taken = heappop(candidates)
        found.append((total, road))
        # The other roads of its branch part from the road at one of these places.
        for size in range(len(prefix), len(road)):
            followers = taken + [road[size]] if size == len(prefix) else [road[size]]
            for candidate in _candidates(net, near, goal, road[:size], followers):
                heappush(candidates, candidate)
    return found


def _candidates(net, near, goal, prefix, taken):
    """Returns a list of the least simple road of a branch, or of none if it has no road.

    The road begins with the prefix and goes on with none of the places that are
    taken. Its sum and its number of places come first, then the road and the branch.
    """
    barred = {place: True for place in prefix}
    arcs = {}
    for place in near:
        arcs[place] = [(other, price) for other, price in near[place] if other not in barred]
    before = road_sum(net, prefix)
    starts = [(other, before + price) for other, price in arcs[prefix[-1]] if other not in taken]
    found = least_paths(arcs, starts)
    if goal not in found:
        return []
    total, count, path = found[goal]
    return [(total, len(prefix) + count, prefix + path, prefix, taken)]
