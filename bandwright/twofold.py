"""Tables of tables: each number of the one taken times the whole other, undone by both."""

from bandwright.errors import NoFit
from bandwright.plain import back_times, some_move
from bandwright.tables import MOST, check_aim, columns, one_table_row, square_size, width


def check_sizes(one, other):
    if len(one) * len(other) > MOST or width(one) * width(other) > MOST:
        raise NoFit("a twofold table has at most forty rows and columns")


def twofold_row(world, row, more):
    told = []
    for number in row:
        told.extend([world.times(number, other) for other in more])
    return told


def twofold(world, one, other):
    check_sizes(one, other)
    told = []
    for row in one:
        told.extend([twofold_row(world, row, more) for more in other])
    return told


def joined(rows):
    told = []
    for row in rows:
        told.extend(row)
    return told


# Cut into rows, a row that the twofold table carries is a table of its own: the one carries its columns, the other its
# rows. So they are undone one after the other.
def twofold_undone(world, one, other, aim):
    n = square_size(one)
    k = square_size(other)
    check_sizes(one, other)
    check_aim(n * k, aim)
    half = back_times(world, one, [aim[i * k:i * k + k] for i in range(n)])
    if half is None:
        return ("loose", 0, twofold_row(world, some_move(world, one), one_table_row(world, k, 0)))
    whole = back_times(world, other, columns(half))
    if whole is None:
        return ("loose", 1, twofold_row(world, one_table_row(world, n, 0), some_move(world, other)))
    return ("one", joined(columns(whole)))
