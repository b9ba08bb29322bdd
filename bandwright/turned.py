"""Turned tables, each told by one row: rows of n numbers as polynomials, of which x ** n counts as one."""

from bandwright.errors import NoFit
from bandwright.polys import common, padded, parted, poly_times
from bandwright.tables import MOST, check_aim


def turned_size(row):
    if not 1 <= len(row) <= MOST:
        raise NoFit("a turned table is told by one to forty numbers")
    return len(row)


def turned_row(row, i):
    return [row[(i - j) % len(row)] for j in range(len(row))]


def turned_table(world, row):
    return [turned_row(row, i) for i in range(turned_size(row))]


# The polynomial of x ** n - 1.
def whole_turn(world, n):
    return padded(world, [world.of(-1)], n) + [world.of(1)]


# A turned table carries rows as its own row times them does, as far as whole turns are left out.
def turned_undone(world, row, aim):
    n = turned_size(row)
    check_aim(n, aim)
    turn = whole_turn(world, n)
    told = common(world, row, turn)
    if len(told[0]) > 1:
        return ("loose", told[0], padded(world, parted(world, turn, told[0])[0], n))
    answer = parted(world, poly_times(world, told[1], aim), turn)[1]
    return ("one", padded(world, answer, n))


# What common tells with the row is shorter than the whole turn, so that nothing of it needs to be left out.
def turned_back(world, row):
    n = turned_size(row)
    told = common(world, row, whole_turn(world, n))
    if len(told[0]) > 1:
        return None
    return padded(world, told[1], n)
