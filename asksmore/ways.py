"""Ways: words in their order, of which only the size is kept when they are long.

A way is a pair of a size and a tuple of ranks of letters. The tuple is empty if the size is above 300. So ways are
compared as words are, but for long ones, of which only the sizes are compared.
"""

from heapq import heappop, heappush

from asksmore.errors import TooLong

MOST_KEPT = 300
NO_WAY = (0, ())


def in_turn(one, other):
    """A way and another one behind it."""
    size = one[0] + other[0]
    return size, one[1] + other[1] if size <= MOST_KEPT else ()


def word_of(letters, way):
    """The word of a way, or None if there is no way."""
    if way is None:
        return None
    if way[0] > MOST_KEPT:
        raise TooLong(way[0])
    return tuple([letters.words[rank] for rank in way[1]])


def size_of_way(way):
    """The size of a way, or None if there is no way."""
    return None if way is None else way[0]


def first_ways(starts, onward):
    """The first way to each node that can be reached, by nodes, from the first way on.

    `starts` has ways by nodes. `onward` is called with a node and its way and gives pairs of a later way and a node.
    """
    best = {node: starts[node] for node in starts}
    queue = []
    for node in starts:
        heappush(queue, (starts[node], node))
    found = {}
    while queue:
        way, node = heappop(queue)
        if node in found:
            continue
        found[node] = way
        for later, other in onward(node, way):
            if other not in best or later < best[other]:
                best[other] = later
                heappush(queue, (later, other))
    return found
