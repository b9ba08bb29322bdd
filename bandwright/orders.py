"""Orders in which a shape is undone: what they fill, and with how many deeds."""

from bandwright.errors import NoOrder
from bandwright.shapes import neighbours
from bandwright.wholes import is_whole


def is_order(thing, n):
    if not isinstance(thing, list) or not all([is_whole(place) for place in thing]):
        return False
    return sorted(thing) == list(range(n))


def check_order(order, n):
    if not is_order(order, n):
        raise NoOrder("an order is a list of all places, each once")


# For each place, which turn it has.
def turns_of(order):
    turns = [0] * len(order)
    for turn, place in enumerate(order):
        turns[place] = turn
    return turns


def link_all(linked, places):
    for one in places:
        for other in places:
            if one != other:
                linked[one][other] = True


def later(shape, order):
    check_order(order, shape[0])
    linked = neighbours(shape)
    turns = turns_of(order)
    told = [[] for place in order]
    for place in order:
        told[place] = sorted([other for other in linked[place] if turns[other] > turns[place]])
        link_all(linked, told[place])
    return told


def filled(shape, order):
    links = []
    for place, others in enumerate(later(shape, order)):
        links.extend([(min(place, other), max(place, other)) for other in others])
    return (shape[0], tuple(sorted(links)))


def place_deeds(many):
    return many * many + 3 * many + 1


def deeds(shape, order):
    return sum([place_deeds(len(others)) for others in later(shape, order)])
