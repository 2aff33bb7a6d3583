"""Labels, and the answers by them (points 604 to 607)."""

from overpasses.answers.search import down_sums, up_sums


def labels(order, rows):
    """Returns the forward labels and the backward labels of all places."""
    forward = [[] for _ in order]
    backward = [[] for _ in order]
    # The highest places first: the labels of a place ask for those of higher ones only.
    for rank in reversed(range(len(order))):
        place = order[rank]
        higher = order[:rank:-1]
        forward[place] = _label(place, higher, up_sums(order, rows, place), backward)
        backward[place] = _label(place, higher, down_sums(order, rows, place), forward)
    return (forward, backward)


def label_answer(forward, backward):
    """Returns the answer by a forward and a backward label, None if no place is in both."""
    prices = {place: price for place, price in backward}
    sums = [price + prices[place] for place, price in forward if place in prices]
    return min(sums, default=None)


def label_size(labels):
    """Returns the number of all entries of the two lists of labels."""
    forward, backward = labels
    return sum([len(label) for label in forward + backward])


def _label(place, higher, sums, others):
    """Returns a label of the place, by the higher places, the highest one first.

    `sums` are those from or to the place, `others` the labels of the other direction.
    """
    label = []
    for other in higher:
        price = sums[other][0]
        if price is None:
            continue
        # So far the label has places higher than `other` only.
        known = label_answer(label, others[other])
        if known is None or price < known:
            label.append((other, price))
    label.append((place, 0))
    return sorted(label)
