"""Tables split at a part of their places, undone by the part and what it leaves of the rest."""

from bandwright.errors import NoOrder
from bandwright.plain import some_move, sure_back, undone
from bandwright.ranks import picked
from bandwright.shapes import is_place
from bandwright.tables import carried, check_aim, product, row_minus, square_size, table_minus
from bandwright.wholes import is_rising


def is_part(thing, n):
    if not isinstance(thing, list) or not all([is_place(place, n) for place in thing]):
        return False
    return is_rising(thing) and 0 < len(thing) < n


def check_part(part, n):
    if not is_part(part, n):
        raise NoOrder("a part is a rising list of places, not none and not all")


def others_of(part, n):
    return [place for place in range(n) if place not in part]


def corner(table, down, across):
    return [picked(table[place], across) for place in down]


def rest_of(world, table, part, others, back):
    less = product(world, corner(table, others, part), product(world, back, corner(table, part, others)))
    return table_minus(world, corner(table, others, others), less)


def split(world, table, part):
    n = square_size(table)
    check_part(part, n)
    back = sure_back(world, corner(table, part, part))
    return (back, rest_of(world, table, part, others_of(part, n), back))


# The whole row of what stands at the other places: at the part it is what the part would have of itself, less what
# the others do there.
def whole_row(world, table, part, back, own, given):
    others = others_of(part, len(table))
    done = carried(world, back, carried(world, corner(table, part, others), given))
    told = [world.of(0)] * len(table)
    for place, number in zip(part + others, row_minus(world, own, done) + given):
        told[place] = number
    return told


def split_undone(world, table, part, aim):
    check_aim(square_size(table), aim)
    parts = split(world, table, part)
    back = parts[0]
    rest = parts[1]
    given = some_move(world, rest)
    if given is not None:
        return ("loose", whole_row(world, table, part, back, [world.of(0)] * len(part), given))
    others = others_of(part, len(table))
    own = carried(world, back, picked(aim, part))
    left = row_minus(world, picked(aim, others), carried(world, corner(table, others, part), own))
    return ("one", whole_row(world, table, part, back, own, undone(world, rest, left)[1]))
