"""Tables split at a part of their places, undone by the part and what it leaves of the rest."""

from bandwright.errors import NoOrder
from bandwright.plain import beside, some_move, sure_back_times, undone
from bandwright.ranks import picked
from bandwright.shapes import is_place
from bandwright.tables import carried, check_aim, one_table, product, row_minus, square_size, table_minus
from bandwright.wholes import is_rising


def is_part(thing, n):
    if not isinstance(thing, list) or not all([is_place(place, n) for place in thing]):
        return False
    return is_rising(thing) and 0 < len(thing) < n


def check_part(part, n):
    if not is_part(part, n):
        raise NoOrder("a part is a rising list of places, not none and not all")


def others_of(part, n):
    return [place for place in range(n) if place not in part]


def corner(table, down, across):
    return [picked(table[place], across) for place in down]


# The back of the part's own table times what stands beside it, and times some columns more.
def parted_at(world, table, part, more):
    asked = beside(corner(table, part, others_of(part, len(table))), more)
    told = sure_back_times(world, corner(table, part, part), asked)
    wide = len(table) - len(part)
    return ([row[:wide] for row in told], [row[wide:] for row in told])


def rest_of(world, table, part, outward):
    others = others_of(part, len(table))
    return table_minus(world, corner(table, others, others), product(world, corner(table, others, part), outward))


def split(world, table, part):
    check_part(part, square_size(table))
    told = parted_at(world, table, part, one_table(world, len(part)))
    return (told[1], rest_of(world, table, part, told[0]))


# What the rest is asked for is the aim less what the part, answering its own, does there.
def left_of_aim(world, table, part, own, aim):
    others = others_of(part, len(table))
    return row_minus(world, picked(aim, others), carried(world, corner(table, others, part), own))


# At the part stands what it would be by itself, less what the rest does to it.
def whole_row(world, part, outward, own, given):
    n = len(part) + len(given)
    places = part + others_of(part, n)
    numbers = row_minus(world, own, carried(world, outward, given)) + given
    told = [world.of(0)] * n
    for place, number in zip(places, numbers):
        told[place] = number
    return told


def split_undone(world, table, part, aim):
    n = square_size(table)
    check_aim(n, aim)
    check_part(part, n)
    told = parted_at(world, table, part, [[number] for number in picked(aim, part)])
    outward = told[0]
    rest = rest_of(world, table, part, outward)
    move = some_move(world, rest)
    if move is not None:
        return ("loose", whole_row(world, part, outward, [world.of(0)] * len(part), move))
    own = [row[0] for row in told[1]]
    given = undone(world, rest, left_of_aim(world, table, part, own, aim))[1]
    return ("one", whole_row(world, part, outward, own, given))
