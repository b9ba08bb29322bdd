"""Tables with a thin part put to them, undone by the table's back and a small core."""

from bandwright.errors import NoFit
from bandwright.plain import some_move, sure_back, undone
from bandwright.tables import (carried, check_aim, has_size, one_table, product, row_minus, square_size, table_plus,
                               width)


def check_thin(table, left, right):
    n = square_size(table)
    if not has_size(left, n, width(left)) or not has_size(right, width(left), n):
        raise NoFit("left needs a row for each of the table's, right a column, and both as many of the other")


def core_of(world, back, left, right):
    return table_plus(world, one_table(world, len(right)), product(world, right, product(world, back, left)))


def core(world, table, left, right):
    check_thin(table, left, right)
    return core_of(world, sure_back(world, table), left, right)


# What left and then the back carry an inner row to.
def outward(world, back, left, inner):
    return carried(world, back, carried(world, left, inner))


# The back's answer is too much by what the thin part does to the true one; the core tells how much that is.
def thin_undone(world, table, left, right, aim):
    check_thin(table, left, right)
    check_aim(len(table), aim)
    back = sure_back(world, table)
    middle = core_of(world, back, left, right)
    inner = some_move(world, middle)
    if inner is not None:
        return ("loose", inner, outward(world, back, left, inner))
    first = carried(world, back, aim)
    much = undone(world, middle, carried(world, right, first))[1]
    return ("one", row_minus(world, first, outward(world, back, left, much)))
