"""Fillings: the filled-in prices and the middles of all pairs (points 301 to 303, 305 and 306)."""

from itertools import combinations

from overpasses.nets.net import link_ways
from overpasses.pairs.pairs import pairs


def fill(net, order):
    """Returns the filling of the net for the order."""
    found = pairs(net, order)
    lower = _lower_by_pair(found, order)
    links = link_ways(net)
    prices = {}
    rows = []
    for low, high in found:
        row = _row(links, prices, lower, low, high)
        prices[(low, high)] = row[2]
        prices[(high, low)] = row[3]
        rows.append(row)
    return rows


def lower_places(rows, order):
    """Returns a dict from each pair of the filling to its lower places, the lowest one first."""
    return _lower_by_pair([(row[0], row[1]) for row in rows], order)


def check_filling(net, order, rows):
    """Tells whether the rows are the filling of the net for the order."""
    found = [(row[0], row[1]) for row in rows]
    if found != pairs(net, order):
        return False
    lower = _lower_by_pair(found, order)
    links = link_ways(net)
    prices = {}
    for row in rows:
        # The rows of the lower pairs stand before this one, and have passed.
        if row != _row(links, prices, lower, row[0], row[1]):
            return False
        prices[(row[0], row[1])] = row[2]
        prices[(row[1], row[0])] = row[3]
    return True


def fill_way(links, prices, places, x, y):
    """Returns the price and the middle of the way from x to y, which has these lower places."""
    price = links.get((x, y))
    middle = None
    for place in places:
        first, second = prices[(x, place)], prices[(place, y)]
        if first is None or second is None:
            continue
        # Only a lesser sum counts: the link and the lowest place come first.
        if price is None or first + second < price:
            price = first + second
            middle = place
    return price, middle


def _lower_by_pair(found, order):
    """Returns a dict from each of the pairs to its lower places, the lowest one first."""
    above = {place: [] for place in order}
    for low, high in found:
        above[low].append(high)
    lower = {pair: [] for pair in found}
    # Any two upper neighbours of a place are a pair, and the place is lower than both.
    for place in order:
        for pair in combinations(above[place], 2):
            lower[pair].append(place)
    return lower


def _row(links, prices, lower, low, high):
    """Returns the row of a pair by the prices of the links and those of the lower pairs."""
    places = lower[(low, high)]
    up, up_middle = fill_way(links, prices, places, low, high)
    down, down_middle = fill_way(links, prices, places, high, low)
    return (low, high, up, down, up_middle, down_middle)
