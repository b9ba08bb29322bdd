"""Rows and tables of the numbers of one world."""

from bandwright.errors import NoFit

MOST = 40


def is_bounded_list(thing):
    return isinstance(thing, list) and 1 <= len(thing) <= MOST


def is_table_row(world, thing):
    return is_bounded_list(thing) and all([world.is_number(number) for number in thing])


def is_table(world, thing):
    if not is_bounded_list(thing) or not all([is_table_row(world, row) for row in thing]):
        return False
    return all([len(row) == len(thing[0]) for row in thing])


def width(table):
    if len(table) == 0:
        return 0
    wide = len(table[0])
    if any([len(row) != wide for row in table]):
        raise NoFit("the rows of a table have unlike lengths")
    return wide


def square_size(table):
    if width(table) != len(table):
        raise NoFit("the table needs as many rows as columns")
    return len(table)


def check_aim(n, aim):
    if len(aim) != n:
        raise NoFit("an aim needs a number for each row of the table")


def has_size(table, n, m):
    return len(table) == n and all([len(row) == m for row in table])


def column(table, place):
    return [row[place] for row in table]


def columns(table):
    return [column(table, place) for place in range(width(table))]


# The sum of the products of the numbers at the same places, of rows as whole numbers: so common divisors are searched
# for once a sum, not at each step of it, which would take long where numbers are.
def sum_of_wholes(world, one, other):
    total = sum([a * b for a, b in zip(one[0], other[0])])
    return world.of(total, one[1] * other[1])


def sums_of_wholes(world, rows, row):
    return [sum_of_wholes(world, each, row) for each in rows]


def all_as_wholes(world, rows):
    return [world.as_wholes(row) for row in rows]


def paired_sum(world, one, other):
    return sum_of_wholes(world, world.as_wholes(one), world.as_wholes(other))


# One row for each of the rows, of its sums with each of the others.
def paired_sums(world, rows, others):
    wholes = all_as_wholes(world, others)
    return [sums_of_wholes(world, wholes, world.as_wholes(row)) for row in rows]


def carried(world, table, row):
    if len(row) != width(table):
        raise NoFit("a row needs a number for each column of the table that carries it")
    return paired_sums(world, [row], table)[0]


def through(world, row, table):
    across = columns(table)
    if len(row) != len(table):
        raise NoFit("a row needs a number for each row of the table that it goes through")
    return paired_sums(world, [row], across)[0]


def product(world, one, other):
    if width(one) != len(other):
        raise NoFit("the first table needs a column for each row of the second")
    return paired_sums(world, one, columns(other))


def row_plus(world, one, other):
    return [world.plus(a, b) for a, b in zip(one, other)]


def row_minus(world, one, other):
    return [world.minus(a, b) for a, b in zip(one, other)]


def table_plus(world, one, other):
    return [row_plus(world, row, more) for row, more in zip(one, other)]


def table_minus(world, one, other):
    return [row_minus(world, row, less) for row, less in zip(one, other)]


def one_table_row(world, n, place):
    row = [world.of(0)] * n
    row[place] = world.of(1)
    return row


def one_table(world, n):
    return [one_table_row(world, n, place) for place in range(n)]
