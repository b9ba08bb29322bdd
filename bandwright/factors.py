"""The two factors of a table along an order."""

from bandwright.orders import check_order, turns_of
from bandwright.packed import packed
from bandwright.tables import has_size, product, square_size


def lower_row(world, row, turns, i):
    told = [number if turns[j] < turns[i] else world.of(0) for j, number in enumerate(row)]
    told[i] = world.of(1)
    return told


def upper_row(world, row, turns, i):
    return [world.of(0) if turns[j] < turns[i] else number for j, number in enumerate(row)]


def lower_of(world, table, turns):
    return [lower_row(world, row, turns, i) for i, row in enumerate(table)]


def upper_of(world, table, turns):
    return [upper_row(world, row, turns, i) for i, row in enumerate(table)]


def factors(world, table, order):
    told = packed(world, table, order)
    if told[2] is not None:
        return None
    turns = turns_of(order)
    return (lower_of(world, told[0], turns), upper_of(world, told[0], turns))


# A table is of one of the two forms where taking out of it what the form leaves out changes nothing.
def are_factors(world, table, order, lower, upper):
    n = square_size(table)
    check_order(order, n)
    if not has_size(lower, n, n) or not has_size(upper, n, n):
        return False
    turns = turns_of(order)
    if lower_of(world, lower, turns) != lower or upper_of(world, upper, turns) != upper:
        return False
    return product(world, lower, upper) == table
