"""Orders of the places of a net (points 201 and 208)."""

from overpasses.errors import NotAnOrder
from overpasses.nets.net import neighbours


def is_order(net, order):
    """Tells whether the list has each place of the net once."""
    return sorted(order) == list(range(net[0]))


def ranks(order):
    """Returns the rank of each place, or raises an error at the first index that is wrong."""
    n = len(order)
    found = [None] * n
    for rank, place in enumerate(order):
        if not 0 <= place < n or found[place] is not None:
            raise NotAnOrder(rank)
        found[place] = rank
    return found


def greedy_order(net):
    """Returns the order that always goes on with a place of the fewest neighbours."""
    near = [neighbours(net, place) for place in range(net[0])]
    left = list(range(net[0]))
    order = []
    while left:
        _, place = min([(len(near[other]), other) for other in left])
        order.append(place)
        left.remove(place)
        around = near[place]
        for other in around:
            near[other] = _joined(near[other], around, place, other)
    return order


def _joined(near, around, taken, place):
    """Returns the neighbours that a place has when its neighbour, with others around it, is taken."""
    kept = [other for other in near if other != taken]
    return kept + [other for other in around if other != place and other not in near]
