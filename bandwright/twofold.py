"""Tables of tables: each number of the one taken times the whole other, undone by both."""

from bandwright.errors import NoFit
from bandwright.plain import back_of, some_move
from bandwright.tables import MOST, check_aim, columns, one_table_row, product, square_size, width


def check_sizes(one, other):
    if len(one) * len(other) > MOST or width(one) * width(other) > MOST:
        raise NoFit("a twofold table has at most forty rows and columns")


def twofold_row(world, row, more):
    told = []
    for number in row:
        told.extend([world.times(number, other) for other in more])
    return told


def twofold(world, one, other):
    check_sizes(one, other)
    told = []
    for row in one:
        told.extend([twofold_row(world, row, more) for more in other])
    return told


# Cut into rows, a row that the twofold table carries is a table of its own: the one carries its columns, the other its
# rows. So their backs undo it one after the other.
def twofold_answer(world, backs, aim):
    many = len(backs[1])
    rows = [aim[start:start + many] for start in range(0, len(aim), many)]
    told = []
    for row in product(world, product(world, backs[0], rows), columns(backs[1])):
        told.extend(row)
    return told


def twofold_undone(world, one, other, aim):
    n = square_size(one)
    k = square_size(other)
    check_sizes(one, other)
    check_aim(n * k, aim)
    backs = (back_of(world, one), back_of(world, other))
    if backs[0] is None:
        return ("loose", 0, twofold_row(world, some_move(world, one), one_table_row(world, k, 0)))
    if backs[1] is None:
        return ("loose", 1, twofold_row(world, one_table_row(world, n, 0), some_move(world, other)))
    return ("one", twofold_answer(world, backs, aim))
