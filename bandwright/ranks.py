"""Ranks of tables, and papers that show them."""

from bandwright.plain import back_of
from bandwright.reduced import reduced
from bandwright.tables import column, columns, has_size, one_table, paired_sums, product, width
from bandwright.wholes import is_rising


def rank(world, table):
    return len(reduced(world, table)[1])


def picked(row, places):
    return [row[place] for place in places]


# Each column is made of the leading ones as the reduced rows tell.
def rank_paper(world, table):
    told = reduced(world, table)
    right = told[0]
    across = told[1]
    left = [picked(row, across) for row in table]
    down = reduced(world, columns(left))[1]
    back = back_of(world, picked(left, down))
    return (left, right, down, across, back)


# Not their product: of a rank of nought, right has no rows that would tell how many columns there are.
def put_back(world, left, right, wide):
    return paired_sums(world, left, [column(right, place) for place in range(wide)])


def are_picks(places, many, bound):
    return len(places) == many and is_rising(places) and all([0 <= place < bound for place in places])


def is_rank_paper(world, table, paper):
    left = paper[0]
    right = paper[1]
    back = paper[4]
    wide = width(table)
    many = len(right)
    if not has_size(left, len(table), many) or not has_size(right, many, wide) or not has_size(back, many, many):
        return False
    if not are_picks(paper[2], many, len(table)) or not are_picks(paper[3], many, wide):
        return False
    inner = [picked(table[place], paper[3]) for place in paper[2]]
    return put_back(world, left, right, wide) == table and product(world, inner, back) == one_table(world, many)
