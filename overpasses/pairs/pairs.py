"""The pairs of a net and an order, their witnesses and their check (points 202 to 207 and 209)."""

from itertools import combinations

from overpasses.errors import NoPair
from overpasses.nets.net import check_places, link_ways, neighbours
from overpasses.pairs.orders import ranks


def pairs(net, order):
    """Returns the pairs in ascending order of ranks."""
    above = upper(net, order)
    return [(low, high) for low in order for high in above[low]]


def upper(net, order):
    """Returns, for each place, its upper neighbours in ascending order of ranks."""
    n, links = net
    rank = ranks(order)
    # The entry [low][high] tells, for two ranks, whether a link or a pair joins their places.
    joined = [[False] * n for _ in order]
    for link in links:
        a, b = rank[link[0]], rank[link[1]]
        joined[min(a, b)][max(a, b)] = True
    found = [[] for _ in order]
    for low, place in enumerate(order):
        above = [high for high in range(low + 1, n) if joined[low][high]]
        for first, second in combinations(above, 2):
            joined[first][second] = True
        found[place] = [order[high] for high in above]
    return found


def steps(net, order):
    """Returns, for each place, the lowest of its upper neighbours, or None."""
    return [above[0] if above else None for above in upper(net, order)]


def chain(net, order, place):
    """Returns the places to which the steps lead from a place, the place itself first."""
    check_places(net[0], [place])
    step_from = steps(net, order)
    found = [place]
    step = step_from[place]
    while step is not None:
        found.append(step)
        step = step_from[step]
    return found


def witness(net, order, u, v):
    """Returns the first of the shortest ways of links that make (u, v) a pair."""
    n = net[0]
    if not 0 <= u < n or not 0 <= v < n:
        raise NoPair(0)
    rank = ranks(order)
    if rank[u] >= rank[v]:
        raise NoPair(0)
    near = [neighbours(net, place) for place in range(n)]
    ways = {u: [u]}
    # Within a layer the places stand in the order of their ways. So, with
    # ascending neighbours, the first way that is found to a place is its least one.
    layer = [u]
    while layer and v not in ways:
        reached = []
        for place in layer:
            for other in near[place]:
                if other not in ways and (other == v or rank[other] < rank[u]):
                    ways[other] = ways[place] + [other]
                    reached.append(other)
        layer = reached
    if v not in ways:
        raise NoPair(0)
    return ways[v]


def check_pairs(net, order, found, ways):
    """Tells whether the tuples are the pairs, each with a way that makes it one."""
    rank = ranks(order)
    joined = link_ways(net)
    listed = {pair: True for pair in found}
    if len(listed) != len(found) or len(ways) != len(found):
        return False
    return (
        _all_go_up(rank, found)
        and _has_links(net, listed)
        and _has_joins(found, listed)
        and all([_is_way(rank, joined, pair, way) for pair, way in zip(found, ways)])
    )


def needing(net, order, u, v):
    """Returns the net with the prices that need the pair."""
    way = witness(net, order, u, v)
    opened = {}
    for a, b in zip(way, way[1:]):
        opened[(min(a, b), max(a, b))] = 1
    links = []
    for link in net[1]:
        a, b = link[0], link[1]
        value = opened.get((a, b))
        links.append((a, b, value, value))
    return (net[0], links)


def _all_go_up(rank, found):
    """Tells whether each tuple leads from a place to a higher one."""
    n = len(rank)
    for u, v in found:
        if not 0 <= u < n or not 0 <= v < n or rank[u] >= rank[v]:
            return False
    return True


def _has(listed, a, b):
    """Tells whether two places are listed in one of the two directions."""
    return (a, b) in listed or (b, a) in listed


def _has_links(net, listed):
    """Tells whether each link is listed."""
    return all([_has(listed, link[0], link[1]) for link in net[1]])


def _has_joins(found, listed):
    """Tells whether each two places that are listed above the same place are listed."""
    above = {}
    for u, v in found:
        above.setdefault(u, []).append(v)
    for places in above.values():
        for v, w in combinations(places, 2):
            if not _has(listed, v, w):
                return False
    return True


def _is_way(rank, joined, pair, way):
    """Tells whether the list is a way of links for the tuple, over lower places only."""
    u, v = pair
    if not way or way[0] != u or way[-1] != v:
        return False
    for a, b in zip(way, way[1:]):
        if (a, b) not in joined:
            return False
    return all([rank[place] < rank[u] for place in way[1:-1]])
