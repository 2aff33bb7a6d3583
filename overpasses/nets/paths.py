"""The least paths of a graph with prices."""

from heapq import heapify, heappop, heappush


def least_paths(arcs, starts):
    """Returns a dict from each node that can be reached to its least path.

    `arcs` is a dict from each node to pairs (node, price), each price at least 1.
    `starts` are pairs (node, sum): the nodes with which a path may begin, each
    once, and the sums with which it begins there. A path is told by its sum, the
    number of its nodes and the list of its nodes; this is also the order of paths.
    """
    queue = [(total, 1, [node]) for node, total in starts]
    heapify(queue)
    known = {node: (total, 1) for node, total in starts}
    found = {}
    while queue:
        total, count, path = heappop(queue)
        node = path[-1]
        if node in found:
            continue
        found[node] = (total, count, path)
        for other, price in arcs[node]:
            size = (total + price, count + 1)
            # Paths of the same size stay in the queue: the first one of them as a list counts.
            if size <= known.get(other, size):
                known[other] = size
                heappush(queue, (total + price, count + 1, path + [other]))
    return found
