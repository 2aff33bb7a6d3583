"""Sessions: nets whose prices are edited, with their fillings (points 401 to 405)."""

from overpasses.errors import BadPrice, NoLink, NothingToUndo
from overpasses.filling.fill import fill, fill_way, lower_places
from overpasses.filling.ways import price_of, road_of
from overpasses.nets.net import is_price, link_ways


class Session:
    """A net whose prices may be edited, with its filling."""

    def __init__(self, net, order):
        rows = fill(net, order)
        self._n = net[0]
        self._order = list(order)
        self._ends = [(link[0], link[1]) for link in net[1]]
        self._links = link_ways(net)
        self._pairs = [(row[0], row[1]) for row in rows]
        self._above = {place: [] for place in order}
        self._lower = lower_places(rows, order)
        self._prices = {}
        self._middles = {}
        for low, high, up, down, up_middle, down_middle in rows:
            self._above[low].append(high)
            self._prices[(low, high)] = up
            self._prices[(high, low)] = down
            self._middles[(low, high)] = up_middle
            self._middles[(high, low)] = down_middle
        self._looked = []
        # For each call that can be taken back, the old prices of the ways that it set.
        self._undos = []

    def edit(self, a, b, price):
        """Makes an edit, and returns its changes."""
        return self.edit_all([(a, b, price)])

    def edit_all(self, edits):
        """Makes several edits together, and returns their changes."""
        values = {}
        for index, (a, b, price) in enumerate(edits):
            if (a, b) not in self._links:
                raise NoLink(index)
            if not is_price(price):
                raise BadPrice(index)
            values[(a, b)] = price
        self._undos.append({way: self._links[way] for way in values})
        return self._mend(values)

    def undo(self):
        """Takes back the last call that was not taken back yet, and returns the changes."""
        if not self._undos:
            raise NothingToUndo(0)
        return self._mend(self._undos.pop())

    def looked(self):
        """Returns the ways that the last call looked at."""
        return list(self._looked)

    def net(self):
        """Returns the net as it is now."""
        links = [(a, b, self._links[(a, b)], self._links[(b, a)]) for a, b in self._ends]
        return (self._n, links)

    def filling(self):
        """Returns the filling as it is now."""
        rows = []
        for low, high in self._pairs:
            up, down = (low, high), (high, low)
            prices = (self._prices[up], self._prices[down])
            middles = (self._middles[up], self._middles[down])
            rows.append((low, high) + prices + middles)
        return rows

    def price(self, x, y):
        """Returns the filled-in price of the way from x to y."""
        return price_of(self.filling(), x, y)

    def road(self, x, y):
        """Returns the road of the way from x to y, None if it has no price."""
        return road_of(self.filling(), x, y)

    def copy(self):
        """Returns an independent session in the same state."""
        other = Session(self.net(), self._order)
        other._looked = list(self._looked)
        # The dicts in it are never changed, so both sessions may have them.
        other._undos = list(self._undos)
        return other

    def _mend(self, values):
        """Sets the prices of ways of links, mends the filling, and returns the changes."""
        for way in values:
            self._links[way] = values[way]
        marked = {way: True for way in values}
        looked = []
        changes = []
        for low, high in self._pairs:
            for x, y in ((low, high), (high, low)):
                if (x, y) not in marked:
                    continue
                looked.append((x, y))
                old = self._prices[(x, y)]
                new = self._fill_in(low, high, x, y)
                if new != old:
                    changes.append((x, y, old, new))
                    self._mark(marked, low, high, x)
        self._looked = looked
        return changes

    def _fill_in(self, low, high, x, y):
        """Fills in a way of the pair anew, and returns its price."""
        places = self._lower[(low, high)]
        price, middle = fill_way(self._links, self._prices, places, x, y)
        self._prices[(x, y)] = price
        self._middles[(x, y)] = middle
        return price

    def _mark(self, marked, low, high, x):
        """Marks the ways of which the changed way of the pair, which begins at x, may be a part."""
        # All of them belong to later pairs: both of their places are higher than `low`.
        for other in self._above[low]:
            if other != high:
                way = (other, high) if x == low else (high, other)
                marked[way] = True
