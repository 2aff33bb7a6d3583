"""The roads of answers (point 505)."""

from overpasses.answers.search import answer, down_sums, up_sums
from overpasses.filling.ways import road_of


def answer_road(order, rows, start, stop):
    """Returns the road of the answer to the question from start to stop, None if there is none."""
    _, top = answer(order, rows, start, stop)
    if top is None:
        return None
    places = _climb(up_sums(order, rows, start), top)
    places.reverse()
    places.extend(_climb(down_sums(order, rows, stop), top)[1:])
    road = [start]
    for x, y in zip(places, places[1:]):
        road.extend(road_of(rows, x, y)[1:])
    return road


def _climb(sums, top):
    """Returns the places to which the steps lead from the top, the top itself first."""
    places = [top]
    step = sums[top][1]
    while step is not None:
        places.append(step)
        step = sums[step][1]
    return places
