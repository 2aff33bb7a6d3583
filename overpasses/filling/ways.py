"""The two ways of each pair of a filling, and their roads (points 301, 303 and 304)."""

from overpasses.errors import NoPair


def price_of(rows, x, y):
    """Returns the filled-in price of the way from x to y."""
    return _way(rows, x, y)[0]


def middle_of(rows, x, y):
    """Returns the middle of the way from x to y."""
    return _way(rows, x, y)[1]


def road_of(rows, x, y):
    """Returns the road of the way from x to y, None if it has no price."""
    price, middle = _way(rows, x, y)
    if price is None:
        return None
    if middle is None:
        return [x, y]
    return road_of(rows, x, middle) + road_of(rows, middle, y)[1:]


def _way(rows, x, y):
    """Returns the price and the middle of the way from x to y."""
    for low, high, up, down, up_middle, down_middle in rows:
        if low == x and high == y:
            return (up, up_middle)
        if low == y and high == x:
            return (down, down_middle)
    raise NoPair(0)
