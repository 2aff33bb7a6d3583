"""Nets: places, links, prices and roads (points 101 to 103 and 106)."""

from overpasses.errors import BadPrice, NoLink, NoPlace

MOST_PLACES = 40
HIGHEST_PRICE = 1000000


def is_price(value):
    """Tells whether an integer or None may be the price of a way."""
    return value is None or 1 <= value <= HIGHEST_PRICE


def is_net(net):
    """Tells whether the tuple is a net."""
    n, links = net
    if not 1 <= n <= MOST_PLACES:
        return False
    before = (0, 0)
    for a, b, there, back in links:
        if not 0 <= a < b < n or (a, b) <= before:
            return False
        if not is_price(there) or not is_price(back):
            return False
        before = (a, b)
    return True


def price(net, a, b):
    """Returns the price from a to b, None if that way is shut."""
    low, _, there, back = net[1][_link_index(net, a, b)]
    return there if a == low else back


def neighbours(net, a):
    """Returns the places to which a link joins a, ascending."""
    n, links = net
    check_places(n, [a])
    # The order of the links already makes these ascend: the links from lower
    # places to a stand before those from a to higher ones.
    found = []
    for link in links:
        if link[0] == a:
            found.append(link[1])
        elif link[1] == a:
            found.append(link[0])
    return found


def with_price(net, a, b, value):
    """Returns the net in which the price from a to b is the value."""
    index = _link_index(net, a, b)
    if not is_price(value):
        raise BadPrice(0)
    n, links = net
    low, high, there, back = links[index]
    link = (low, high, value, back) if a == low else (low, high, there, value)
    return (n, links[:index] + [link] + links[index + 1:])


def road_sum(net, road):
    """Returns the sum of a road, None if the list is not a road."""
    if not road or not 0 <= road[0] < net[0]:
        return None
    prices = link_ways(net)
    total = 0
    for a, b in zip(road, road[1:]):
        cost = prices.get((a, b))
        if cost is None:
            return None
        total = total + cost
    return total


def link_ways(net):
    """Returns a dict from both ways of each link, open or shut, to their prices."""
    prices = {}
    for a, b, there, back in net[1]:
        prices[(a, b)] = there
        prices[(b, a)] = back
    return prices


def open_ways(net):
    """Returns a dict from each open way of a link to its price, in ascending order of the ways."""
    prices = link_ways(net)
    return {way: prices[way] for way in sorted(prices) if prices[way] is not None}


def ways_from(net):
    """Returns a dict from each place to its next places over open ways, ascending, with the prices."""
    found = {place: [] for place in range(net[0])}
    for (a, b), cost in open_ways(net).items():
        found[a].append((b, cost))
    return found


def check_places(n, places):
    """Raises an error for the first of the integers that is not a place of a net of n places."""
    for place in places:
        if not 0 <= place < n:
            raise NoPlace(place)


def _link_index(net, a, b):
    """Returns the index of the link between a and b, or raises the error of `price`."""
    n, links = net
    check_places(n, [a, b])
    ends = (min(a, b), max(a, b))
    for index, link in enumerate(links):
        if (link[0], link[1]) == ends:
            return index
    raise NoLink(0)
