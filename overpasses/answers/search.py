"""Searches up and down, and the answers to questions (points 501 to 504)."""

from overpasses.nets.net import check_places

UP = 2
DOWN = 3


def up_sums(order, rows, place):
    """Returns, for each place, its up sum from the place and the step to it."""
    return _sums(order, rows, place, UP)


def down_sums(order, rows, place):
    """Returns, for each place, its down sum to the place and the step from it."""
    return _sums(order, rows, place, DOWN)


def answer(order, rows, start, stop):
    """Returns the answer to the question from start to stop, and its top."""
    ups = up_sums(order, rows, start)
    downs = down_sums(order, rows, stop)
    least, top = None, None
    for place in order:
        up, down = ups[place][0], downs[place][0]
        if up is None or down is None:
            continue
        # Only a lesser sum counts, so the lowest place is the top.
        if least is None or up + down < least:
            least, top = up + down, place
    return (least, top)


def answers(order, rows, start, stops):
    """Returns the answers to the questions from start to each of the places."""
    least = [entry[0] for entry in up_sums(order, rows, start)]
    check_places(len(order), stops)
    # The highest places first: a way down begins at a place whose answer is complete.
    for row in reversed(rows):
        low, before, price = row[0], least[row[1]], row[DOWN]
        if before is None or price is None:
            continue
        if least[low] is None or before + price < least[low]:
            least[low] = before + price
    return [least[place] for place in stops]


def _sums(order, rows, place, column):
    """Returns, for each place, the least sum over ways of the column between it and the place, and its step."""
    check_places(len(order), [place])
    found = [(None, None) for _ in order]
    found[place] = (0, None)
    # The rows begin with the lowest places: the sum of `low` is complete, and
    # the first one of equal sums belongs to the lowest step.
    for row in rows:
        low, high, price = row[0], row[1], row[column]
        before, known = found[low][0], found[high][0]
        if before is None or price is None:
            continue
        if known is None or before + price < known:
            found[high] = (before + price, low)
    return found
