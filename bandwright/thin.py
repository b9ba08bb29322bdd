"""Tables with a thin part put to them, undone by the table's back and a small core."""

from bandwright.errors import NoFit
from bandwright.plain import beside, some_move, sure_back_times, undone
from bandwright.tables import (carried, check_aim, has_size, one_table, product, row_minus, square_size, table_plus,
                               width)


def check_thin(table, left, right):
    n = square_size(table)
    if not has_size(left, n, width(left)) or not has_size(right, width(left), n):
        raise NoFit("left needs a row for each of the table's, right a column, and both as many of the other")


# Of right and the back times left.
def core_of(world, right, outward):
    return table_plus(world, one_table(world, len(right)), product(world, right, outward))


def core(world, table, left, right):
    check_thin(table, left, right)
    return core_of(world, right, sure_back_times(world, table, left))


# The back's own answer is too much by what the thin part does to the true one; the core tells how much that is.
def thin_undone(world, table, left, right, aim):
    check_thin(table, left, right)
    check_aim(len(table), aim)
    both = sure_back_times(world, table, beside(left, [[number] for number in aim]))
    outward = [row[:-1] for row in both]
    own = [row[-1] for row in both]
    middle = core_of(world, right, outward)
    inner = some_move(world, middle)
    if inner is not None:
        return ("loose", inner, carried(world, outward, inner))
    much = undone(world, middle, carried(world, right, own))[1]
    return ("one", row_minus(world, own, carried(world, outward, much)))
