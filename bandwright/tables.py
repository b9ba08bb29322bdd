"""Rows and tables of the numbers of one world."""

from bandwright.errors import NoFit

MOST = 40


def is_bounded_list(thing):
    return isinstance(thing, list) and 1 <= len(thing) <= MOST


def is_table_row(world, thing):
    return is_bounded_list(thing) and all([world.is_number(number) for number in thing])


def is_table(world, thing):
    if not is_bounded_list(thing) or not all([is_table_row(world, row) for row in thing]):
        return False
    return all([len(row) == len(thing[0]) for row in thing])


def width(table):
    if len(table) == 0:
        return 0
    wide = len(table[0])
    if any([len(row) != wide for row in table]):
        raise NoFit("the rows of a table have unlike lengths")
    return wide


def column(table, place):
    return [row[place] for row in table]


def columns(table):
    return [column(table, place) for place in range(width(table))]


# The sum of the products of the numbers at the same places.
def paired_sum(world, one, other):
    total = world.of(0)
    for a, b in zip(one, other):
        total = world.plus(total, world.times(a, b))
    return total


def paired_sums(world, rows, row):
    return [paired_sum(world, each, row) for each in rows]


def carried(world, table, row):
    if len(row) != width(table):
        raise NoFit("a row needs a number for each column of the table that carries it")
    return paired_sums(world, table, row)


def through(world, row, table):
    across = columns(table)
    if len(row) != len(table):
        raise NoFit("a row needs a number for each row of the table that it goes through")
    return paired_sums(world, across, row)


def product(world, one, other):
    if width(one) != len(other):
        raise NoFit("the first table needs a column for each row of the second")
    across = columns(other)
    return [paired_sums(world, across, row) for row in one]


def one_table_row(world, n, place):
    row = [world.of(0)] * n
    row[place] = world.of(1)
    return row


def one_table(world, n):
    return [one_table_row(world, n, place) for place in range(n)]
