"""True prices and slack ways (points 601 to 603)."""


def true_prices(order, rows):
    """Returns a dict from each way of a pair to its true price."""
    above = {place: [] for place in order}
    filled = {}
    for row in rows:
        low, high = row[0], row[1]
        above[low].append(high)
        filled[(low, high)] = row[2]
        filled[(high, low)] = row[3]
    found = {}
    for row in reversed(rows):
        low, high = row[0], row[1]
        up, down = filled[(low, high)], filled[(high, low)]
        for other in above[low]:
            if other != high:
                up = _lesser(up, filled[(low, other)], found[(other, high)])
                down = _lesser(down, found[(high, other)], filled[(other, low)])
        found[(low, high)] = up
        found[(high, low)] = down
    return found


def slack_ways(order, rows):
    """Returns the slack ways in the order of the rows, the way up before the way down."""
    true = true_prices(order, rows)
    found = []
    for row in rows:
        low, high = row[0], row[1]
        for way, price in (((low, high), row[2]), ((high, low), row[3])):
            # A way with a price has a true price, which is never greater.
            if price is None or price != true[way]:
                found.append(way)
    return found


def without_slack(order, rows):
    """Returns the rows in which the price and the middle of each slack way are None."""
    slack = {way: True for way in slack_ways(order, rows)}
    kept = []
    for row in rows:
        low, high, up, down, up_middle, down_middle = row
        if (low, high) in slack:
            up, up_middle = None, None
        if (high, low) in slack:
            down, down_middle = None, None
        kept.append((low, high, up, down, up_middle, down_middle))
    return kept


def _lesser(price, first, second):
    """Returns the lesser one of a price and the sum of two prices, any of which may be None."""
    if first is None or second is None:
        return price
    if price is None or first + second < price:
        return first + second
    return price
