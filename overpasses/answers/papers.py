"""Papers, and the check of an answer by a paper (points 507 and 508)."""

from overpasses.nets.net import check_places, open_ways, road_sum, ways_from
from overpasses.nets.paths import least_paths


def paper(net, place):
    """Returns, for each place, the least price of all roads to it from the place."""
    check_places(net[0], [place])
    found = least_paths(ways_from(net), [(place, 0)])
    return [found[other][0] if other in found else None for other in range(net[0])]


def check_answer(net, start, stop, number, road, paper):
    """Tells whether the paper shows that the number and the road answer the question."""
    check_places(net[0], [start, stop])
    if len(paper) != net[0] or paper[start] != 0 or not _holds(net, paper):
        return False
    if paper[stop] != number:
        return False
    if number is None or road is None:
        return number is None and road is None
    # Only a list with a first and a last element has a sum.
    return road_sum(net, road) == number and road[0] == start and road[-1] == stop


def _holds(net, paper):
    """Tells whether no open way leads to a place for less than its number on the paper."""
    for (a, b), price in open_ways(net).items():
        if paper[a] is None:
            continue
        if paper[b] is None or paper[b] > paper[a] + price:
            return False
    return True
