"""The fewest deeds of all orders of a small shape, and worths that show them."""

from bandwright.errors import NoSize
from bandwright.orders import deeds, place_deeds
from bandwright.shapes import neighbours

MOST = 9


def check_size(shape):
    if shape[0] > MOST:
        raise NoSize("the fewest deeds are told of shapes of up to nine places")


# Those to which a walk leads from the place, all places between undone.
def still_near(linked, done, place):
    met = {place: True}
    waiting = [place]
    while len(waiting) > 0:
        here = waiting.pop()
        for other in linked[here]:
            if other not in met:
                met[other] = True
                if other in done:
                    waiting.append(other)
    return [other for other in met if other != place and other not in done]


def cost(shape, done, place):
    check_size(shape)
    return place_deeds(len(still_near(neighbours(shape), done, place)))


def rising_tuples(n):
    told = [()]
    for place in range(n):
        told = told + [each + (place,) for each in told]
    return told


def and_done(done, place):
    return tuple(sorted(done + (place,)))


# For each place that isn't undone, what its cost and the worth behind it come to.
def choices(shape, done, worth_of):
    left = [place for place in range(shape[0]) if place not in done]
    return [(cost(shape, done, place) + worth_of[and_done(done, place)], place) for place in left]


# Those with more places come first, so that the worths behind are known.
def worths(shape):
    check_size(shape)
    told = {}
    for done in sorted(rising_tuples(shape[0]), key=len, reverse=True):
        told[done] = min([total for total, place in choices(shape, done, told)], default=0)
    return told


def fewest(shape):
    worth_of = worths(shape)
    order = []
    done = ()
    while len(order) < shape[0]:
        place = min(choices(shape, done, worth_of))[1]
        order.append(place)
        done = and_done(done, place)
    return (order, worth_of[()])


def keeps_to_costs(shape, done, worth_of):
    return all([worth_of[done] <= total for total, place in choices(shape, done, worth_of)])


def shows_fewest(shape, order, worths):
    check_size(shape)
    many = deeds(shape, order)
    tuples = rising_tuples(shape[0])
    if len(worths) != len(tuples) or not all([done in worths for done in tuples]):
        return False
    if worths[tuple(range(shape[0]))] > 0 or worths[()] != many:
        return False
    return all([keeps_to_costs(shape, done, worths) for done in tuples])
