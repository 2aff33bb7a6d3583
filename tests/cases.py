"""What the tests of pairs and fillings share: checked calls, nets, and slow answers by definition."""

import copy
import itertools
import random
import unittest

TOP = 1000000
HUGE = 10 ** 40


def kinds(value):
    """The value with the kind of each of its parts, so that 1 and True, or a list and a tuple, differ."""
    if isinstance(value, dict):
        return ("dict", sorted((kinds(key), kinds(part)) for key, part in value.items()))
    if isinstance(value, (list, tuple)):
        return (type(value).__name__, [kinds(part) for part in value])
    return (type(value).__name__, str(value))


def spoil(value):
    """Changes every list and dict in the value."""
    if isinstance(value, dict):
        for part in value.values():
            spoil(part)
        value["spoilt"] = 1
    if isinstance(value, (list, tuple)):
        for part in value:
            spoil(part)
    if isinstance(value, list):
        value.append("spoilt")


class Case(unittest.TestCase):
    def gives(self, expected, call, *args):
        """The call returns exactly this, changes nothing, and returns a new one each time (point 2)."""
        before = copy.deepcopy(args)
        for _ in range(2):
            found = call(*args)
            self.assertEqual(kinds(found), kinds(expected), args)
            self.assertEqual(args, before)
            spoil(found)
            self.assertEqual(args, before)

    def fails(self, error, at, call, *args):
        """The call raises exactly this error, with this `at`, and changes nothing."""
        before = copy.deepcopy(args)
        with self.assertRaises(error) as caught:
            call(*args)
        self.assertIs(type(caught.exception), error, args)
        self.assertEqual(kinds(caught.exception.at), kinds(at), args)
        self.assertEqual(args, before)


def no_places(n):
    """Integers that are not places of a net of n places."""
    return [-1, -2, -n, -HUGE, n, n + 1, 2 ** 32 - 1, HUGE]


def line(n):
    """The links 0-1, 1-2 and so on; the way there costs 2, the way back 3."""
    return (n, [(k, k + 1, 2, 3) for k in range(n - 1)])


def star(n):
    """Place 0 is linked to all others."""
    return (n, [(0, k, k, 10 * k) for k in range(1, n)])


def full(n):
    pairs = itertools.combinations(range(n), 2)
    return (n, [(a, b, 1 + 50 * a + b, None if (a + b) % 3 == 0 else 7000 + 50 * b + a) for a, b in pairs])


def some_net(rng, n, share, values):
    """A net of n places; each possible link is there with the probability `share`."""
    pairs = itertools.combinations(range(n), 2)
    return (n, [(a, b, rng.choice(values), rng.choice(values)) for a, b in pairs if rng.random() < share])


def some_order(rng, n):
    order = list(range(n))
    rng.shuffle(order)
    return order


def small_samples(seed, count):
    """Small nets with many ties and shut ways, each with an order."""
    rng = random.Random(seed)
    values = [[1, 2, None], [None], [1], [1, 2, 3, 4, 5, 6], [1, 2, 999999, TOP, None]]
    for k in range(count):
        n = k % 7 + 1
        share = rng.choice([0, 0.2, 0.4, 0.6, 1])
        yield some_net(rng, n, share, rng.choice(values)), some_order(rng, n)


def large_samples(seed):
    """Nets of up to 40 places, most of them sparse, each with an order."""
    rng = random.Random(seed)
    for n, share in [(12, 0.2), (17, 0.3), (25, 0.1), (31, 0.07), (40, 0.03), (40, 0.05), (40, 0.1), (40, 0.3)]:
        yield some_net(rng, n, share, [1, 2, 3, 4, 50, TOP, None]), some_order(rng, n)
    yield full(40), some_order(rng, 40)
    yield line(40), some_order(rng, 40)
    yield star(40), list(range(40))
    # A ladder: the shortest ways of links have many equals.
    rungs = [(2 * k, 2 * k + 1, 1, 1) for k in range(20)]
    rails = [(k, k + 2, 1, 1) for k in range(38)]
    ladder = (40, sorted(rungs + rails))
    yield ladder, list(range(40))
    yield ladder, some_order(rng, 40)
    yield ladder, list(range(1, 39)) + [39, 0]


def prices_of(net):
    """The price of each way of each link."""
    found = {}
    for a, b, there, back in net[1]:
        found[a, b] = there
        found[b, a] = back
    return found


def some_ways(net, start, stop, inner):
    """All ways of links from start to stop without a repetition, with inner places of these only."""
    joined = prices_of(net)
    for length in range(len(inner) + 1):
        for between in itertools.permutations(inner, length):
            way = [start, *between, stop]
            if all(step in joined for step in zip(way, way[1:])):
                yield way


def lower_than(order, *places):
    """The places that are lower than all of these."""
    return order[:min(order.index(place) for place in places)]


def pairs_by_definition(net, order):
    """Point 202, by spreading out from each place over the lower ones."""
    joined = prices_of(net)
    found = []
    for u in order:
        lower = lower_than(order, u)
        reached = {u}
        grown = True
        while grown:
            grown = False
            for x in lower:
                if x not in reached and any((y, x) in joined for y in reached):
                    reached.add(x)
                    grown = True
        higher = order[order.index(u) + 1:]
        found += [(u, v) for v in higher if any((y, v) in joined for y in reached)]
    return found


def witness_by_definition(net, order, u, v):
    """Point 204 for a small net, by all ways of links."""
    ways = some_ways(net, u, v, lower_than(order, u))
    return min(ways, key=lambda way: (len(way), way), default=None)


def far_witness(net, order, u, v):
    """Point 204, by the numbers of links to v, from which the least next place is taken."""
    joined = prices_of(net)
    inner = lower_than(order, u)
    links_to = {v: 0}
    for count in range(1, len(inner) + 2):
        for x in [u, *inner]:
            if x not in links_to and any(links_to.get(y) == count - 1 and (x, y) in joined for y in [v, *inner]):
                links_to[x] = count
    way = [u]
    while way[-1] != v:
        near = [y for y in [v, *inner] if (way[-1], y) in joined and y in links_to]
        way.append(min(y for y in near if links_to[y] == links_to[way[-1]] - 1))
    return way


def least(values):
    """The least of the numbers, None if there are none."""
    return min((value for value in values if value is not None), default=None)


def plus(first, second):
    return None if first is None or second is None else first + second


def filled_prices(net, order):
    """Point 301 for all ways of two places, by admitting the places as inner ones, the lowest first."""
    n = net[0]
    opened = prices_of(net)
    sums = {way: opened.get(way) for way in itertools.permutations(range(n), 2)}
    found = {}
    for place in order:
        # So far, exactly the places that are lower than this one have been admitted.
        for other in range(n):
            for way in ((place, other), (other, place)):
                if other != place and way not in found:
                    found[way] = sums[way]
        for x, y in sums:
            if place not in (x, y):
                sums[x, y] = least([sums[x, y], plus(sums[x, place], sums[place, y])])
    return found


def middle_by_definition(net, order, found, prices, x, y):
    """Point 303, by the pairs and the filled-in prices of all ways."""
    price = prices[x, y]
    if price is None or prices_of(net).get((x, y)) == price:
        return None
    for w in lower_than(order, x, y):
        if (w, x) in found and (w, y) in found and plus(prices[x, w], prices[w, y]) == price:
            return w
    raise AssertionError("a price comes from a link or from a lower place")


def filling_by_definition(net, order):
    found = pairs_by_definition(net, order)
    prices = filled_prices(net, order)
    rows = []
    for low, high in found:
        up = middle_by_definition(net, order, found, prices, low, high)
        down = middle_by_definition(net, order, found, prices, high, low)
        rows.append((low, high, prices[low, high], prices[high, low], up, down))
    return rows


def turned_round(net):
    """The net in which each link has its two prices exchanged."""
    return (net[0], [(a, b, back, there) for a, b, there, back in net[1]])


def simple_roads(net, start, stop):
    """All pairs of the sum and the road, for the roads from start to stop without a repetition."""
    opened = {way: price for way, price in prices_of(net).items() if price is not None}
    found = []

    def go_on(total, road):
        if road[-1] == stop:
            found.append((total, road))
            return
        for other in range(net[0]):
            if (road[-1], other) in opened and other not in road:
                go_on(total + opened[road[-1], other], [*road, other])

    go_on(0, [start])
    return found


def least_of_all_roads(net, start, stop):
    """Point 506 for a small net; a road with a repetition is never the cheapest one."""
    return min([total for total, _ in simple_roads(net, start, stop)], default=None)


def least_sums(net):
    """The least price of all roads for each two places, by admitting the places as inner ones, one after the other."""
    n = net[0]
    opened = prices_of(net)
    sums = {(x, y): 0 if x == y else opened.get((x, y)) for x in range(n) for y in range(n)}
    for place in range(n):
        for x, y in sums:
            sums[x, y] = least([sums[x, y], plus(sums[x, place], sums[place, y])])
    return sums


def ways_in_order(rows):
    """The ways of a filling with their prices, in the order of the rows, the way up before the way down."""
    found = {}
    for low, high, up, down, *_ in rows:
        found[low, high] = up
        found[high, low] = down
    return found


def some_edits(rng, net, count):
    """Edits of ways of the net, some of which set the price that is there already."""
    ways = sorted(prices_of(net))
    values = [None, 1, 2, 3, 5, 8, 40, TOP]
    edits = [(*rng.choice(ways), rng.choice(values)) for _ in range(count if ways else 0)]
    return [(a, b, prices_of(net)[a, b]) if rng.random() < 0.1 else (a, b, value) for a, b, value in edits]
