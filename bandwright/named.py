"""Shapes told by names, and orders of them with the fewest deeds."""

from bandwright.errors import NoShape
from bandwright.orders import deeds
from bandwright.shapes import MOST, is_place
from bandwright.wholes import is_whole


def is_size(thing):
    return is_whole(thing) and 1 <= thing <= MOST


def are_aheads(thing):
    if not isinstance(thing, tuple) or not is_size(len(thing) + 1):
        return False
    return all([is_place(ahead, place) for place, ahead in enumerate(thing, start=1)])


def is_known(told):
    if not isinstance(told, tuple) or len(told) == 0:
        return False
    if told[0] == "band" or told[0] == "brim":
        return len(told) == 3 and is_size(told[1]) and is_place(told[2], told[1])
    if len(told) != 2:
        return False
    if told[0] == "tree":
        return are_aheads(told[1])
    if told[0] == "ring":
        return is_size(told[1]) and told[1] >= 3
    return told[0] == "ladder" and is_whole(told[1]) and is_size(2 * told[1])


def size_of(told):
    if told[0] == "tree":
        return len(told[1]) + 1
    if told[0] == "ladder":
        return 2 * told[1]
    return told[1]


# Of places i < j.
def are_linked(told, i, j):
    apart = j - i
    if told[0] == "tree":
        return told[1][j - 1] == i
    if told[0] == "ring":
        return apart == 1 or apart == told[1] - 1
    if told[0] == "ladder":
        return apart == 2 or (apart == 1 and i % 2 == 0)
    return apart <= told[2] or (told[0] == "brim" and j == told[1] - 1)


def named(told):
    if not is_known(told):
        raise NoShape("a shape is told as a band, a brim, a ring, a tree or a ladder of 1 to 60 places")
    n = size_of(told)
    links = []
    for i in range(n):
        links.extend([(i, j) for j in range(i + 1, n) if are_linked(told, i, j)])
    return (n, tuple(links))


# These orders fill nothing in bands, brims and trees. In rings and ladders every order leaves two later places to each
# place but the last two (a ladder of one rung is a tree), and these orders leave no more.
def best(told):
    shape = named(told)
    order = list(range(shape[0]))
    if told[0] == "tree":
        order = list(reversed(order))
    return (order, deeds(shape, order))
