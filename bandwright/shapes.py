"""Shapes: places, and which of them are linked."""

from bandwright.tables import square_size
from bandwright.wholes import is_rising, is_whole

MOST = 60


def is_place(thing, n):
    return is_whole(thing) and 0 <= thing < n


def is_link(thing, n):
    if not isinstance(thing, tuple) or len(thing) != 2:
        return False
    return is_place(thing[0], n) and is_place(thing[1], n) and thing[0] < thing[1]


def are_links(thing, n):
    return isinstance(thing, tuple) and all([is_link(each, n) for each in thing]) and is_rising(thing)


def is_shape(thing):
    if not isinstance(thing, tuple) or len(thing) != 2:
        return False
    return is_whole(thing[0]) and 1 <= thing[0] <= MOST and are_links(thing[1], thing[0])


def links_of_place(world, table, i):
    nought = world.of(0)
    return [(i, j) for j in range(i + 1, len(table)) if table[i][j] != nought or table[j][i] != nought]


def shape_of(world, table):
    n = square_size(table)
    links = []
    for i in range(n):
        links.extend(links_of_place(world, table, i))
    return (n, tuple(links))


# For each place a dict of those linked to it, so that two places are quickly asked about.
def neighbours(shape):
    linked = [{} for place in range(shape[0])]
    for i, j in shape[1]:
        linked[i][j] = True
        linked[j][i] = True
    return linked


def near(shape, place):
    return sorted(neighbours(shape)[place])


# Each triangle is counted once, at the link of its two least places.
def triangles(shape):
    linked = neighbours(shape)
    count = 0
    for i, j in shape[1]:
        count += len([k for k in linked[i] if k > j and k in linked[j]])
    return count
