"""Rows as polynomials: the number k of a row is that of the power k."""

from bandwright.errors import NoOver
from bandwright.wholepolys import whole_common, whole_parted, whole_times


def trimmed(world, row):
    many = len(row)
    while many > 0 and row[many - 1] == world.of(0):
        many -= 1
    return row[:many]


# The row with noughts behind it, so many numbers in all.
def padded(world, row, many):
    return row + [world.of(0)] * (many - len(row))


def put_together(world, one, other):
    many = max(len(one), len(other))
    return trimmed(world, [world.plus(a, b) for a, b in zip(padded(world, one, many), padded(world, other, many))])


# The numbers of whole ones, each taken so many times, over one bottom.
def numbers_of(world, wholes, times, bottom):
    return [world.of(whole * times, bottom) for whole in wholes]


def poly_times(world, one, other):
    first = world.as_wholes(one)
    second = world.as_wholes(other)
    return trimmed(world, numbers_of(world, whole_times(first[0], second[0]), 1, first[1] * second[1]))


def parted(world, one, other):
    first = world.as_wholes(trimmed(world, one))
    second = world.as_wholes(trimmed(world, other))
    if len(second[0]) == 0:
        raise NoOver("a polynomial parted by nought")
    told = whole_parted(world, first[0], second[0])
    bottom = told[2] * first[1]
    by = numbers_of(world, told[0], second[1], bottom)
    return (by, trimmed(world, numbers_of(world, told[1], 1, bottom)))


def common(world, one, other):
    first = world.as_wholes(trimmed(world, one))
    second = world.as_wholes(trimmed(world, other))
    told = whole_common(world, first[0], second[0])
    if len(told[0]) == 0:
        return ([], [], [])
    lead = told[0][-1]
    u = numbers_of(world, told[1], first[1], lead)
    v = numbers_of(world, told[2], second[1], lead)
    return (numbers_of(world, told[0], 1, lead), u, v)
