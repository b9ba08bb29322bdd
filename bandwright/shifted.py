"""Shifted tables, each told by one row, whose undoing grows by pairs of rows."""

from bandwright.errors import NoFit
from bandwright.polys import numbers_of, padded
from bandwright.tables import MOST, check_aim


def shifted_size(row):
    if len(row) % 2 == 0 or len(row) >= 2 * MOST:
        raise NoFit("a shifted table is told by an odd number of numbers, 1 to 79")
    return (len(row) + 1) // 2


# So many numbers of the table's row i, which may be -1: that is the first row without its first number.
def shifted_row(row, i, many):
    start = len(row) // 2 + i
    return [row[start - j] for j in range(many)]


def shifted_table(world, row):
    n = shifted_size(row)
    return [shifted_row(row, i, n) for i in range(n)]


def whole_sum(one, other):
    return sum([a * b for a, b in zip(one, other)])


# A pair here is of whole numbers, (front, back, much): the table carries the front to (much, nought, ..) and the back
# to (nought, .., much). Longer by a nought, the front spills over at the next place, the back at the first one; each
# is mended by the other. All comes out even over the much of the pair ahead, as these are determinants.
def next_pair(world, row, pair, last):
    many = len(pair[0])
    much = pair[2]
    down = whole_sum(shifted_row(row, many, many), pair[0])
    up = whole_sum(shifted_row(row, -1, many), pair[1])
    front = pair[0] + [0]
    back = [0] + pair[1]
    mended_front = world.evenly([much * a - down * b for a, b in zip(front, back)], last)
    mended_back = world.evenly([much * b - up * a for a, b in zip(front, back)], last)
    return (mended_front, mended_back, world.evenly([much * much - down * up], last)[0])


# All of the growth, and where it ends ahead of its time the pair whose much is nought: its back is then carried to
# noughts.
def whole_pairs(world, row):
    pair = ([1], [1], row[len(row) // 2])
    told = [pair]
    last = 1
    while pair[2] != 0 and 2 * len(told) < len(row):
        following = next_pair(world, row, pair, last)
        last = pair[2]
        pair = following
        told.append(pair)
    return told


# The row's whole numbers are its own times some bottom, and so the pair's rows are to be taken.
def told_pair(world, pair, bottom):
    return (numbers_of(world, pair[0], bottom, pair[2]), numbers_of(world, pair[1], bottom, pair[2]))


def growth(world, row):
    shifted_size(row)
    wholes = world.as_wholes(row)
    return [told_pair(world, pair, wholes[1]) for pair in whole_pairs(world, wholes[0]) if pair[2] != 0]


def grown(world, row, front, back):
    n = shifted_size(row)
    many = len(front)
    if len(back) != many or not 1 <= many < n:
        raise NoFit("a pair that grows is of two rows, as long as one another and shorter than the table")
    wholes = world.as_wholes(row)
    both = world.as_wholes(front + back)
    pair = next_pair(world, wholes[0], (both[0][:many], both[0][many:], both[1] * wholes[1]), 1)
    if pair[2] == 0:
        return None
    return told_pair(world, pair, wholes[1])


# At each next place the answer so far falls short of the aim; so many times the back of that place mends it.
def whole_answer(world, row, pairs, aim):
    answer = []
    last = 1
    for place, pair in enumerate(pairs):
        short = last * aim[place] - whole_sum(shifted_row(row, place, place), answer)
        answer = world.evenly([pair[2] * a + short * b for a, b in zip(answer + [0], pair[1])], last)
        last = pair[2]
    return answer


def shifted_undone(world, row, aim):
    n = shifted_size(row)
    check_aim(n, aim)
    wholes = world.as_wholes(row)
    pairs = whole_pairs(world, wholes[0])
    back = pairs[-1][1]
    much = pairs[-1][2]
    if much == 0:
        return ("stops", len(pairs), padded(world, numbers_of(world, back, 1, back[-1]), n))
    aims = world.as_wholes(aim)
    answer = whole_answer(world, wholes[0], pairs, aims[0])
    return ("one", numbers_of(world, answer, wholes[1], much * aims[1]))
