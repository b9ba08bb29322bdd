"""Perfect orders, which fill nothing, and bare rings, which leave no such order."""

from bandwright.orders import filled
from bandwright.shapes import is_place, neighbours


def is_perfect(shape, order):
    return filled(shape, order) == shape


# Backwards, each time the place with the most links to those already picked. Where any order is perfect, this one is
# (Tarjan and Yannakakis), so no other needs to be tried.
def likely_order(shape):
    linked = neighbours(shape)
    left = list(range(shape[0]))
    counts = [0] * shape[0]
    picked = []
    while len(left) > 0:
        place = max(left, key=lambda each: counts[each])
        left.remove(place)
        picked.append(place)
        for other in linked[place]:
            counts[other] += 1
    return list(reversed(picked))


def walk_back(whence, place):
    walk = []
    while place is not None:
        walk.append(place)
        place = whence[place]
    return walk


def unmet(linked, whence, place):
    return [other for other in linked[place] if other not in whence]


# Walks from start, one step at a time, through places that aren't near the place, until one is met that is, but that
# isn't linked to start. As no walk is shorter, no two places of it but neighbours are linked.
def ring_over(linked, place, start):
    whence = {place: None, start: None}
    heads = [start]
    while len(heads) > 0:
        reached = []
        for head in heads:
            fresh = unmet(linked, whence, head)
            for other in fresh:
                whence[other] = head
                if other not in linked[place]:
                    reached.append(other)
                elif other not in linked[start]:
                    return [place] + walk_back(whence, other)
        heads = reached
    return None


# Each bare ring is found from each of its places, over either neighbour, unless a shorter one is found first.
def bare_ring(shape):
    linked = neighbours(shape)
    for place in range(shape[0]):
        for start in linked[place]:
            ring = ring_over(linked, place, start)
            if ring is not None:
                return ring
    return None


def perfect(shape):
    order = likely_order(shape)
    if is_perfect(shape, order):
        return ("order", order)
    return ("ring", bare_ring(shape))


def ring_links(places):
    return [(min(one, other), max(one, other)) for one, other in zip(places, places[1:] + places[:1])]


def links_among(shape, places):
    return [(i, j) for i, j in shape[1] if i in places and j in places]


def is_bare_ring(shape, places):
    if len(places) < 4 or len(set(places)) != len(places):
        return False
    if not all([is_place(place, shape[0]) for place in places]):
        return False
    return sorted(ring_links(places)) == links_among(shape, places)
