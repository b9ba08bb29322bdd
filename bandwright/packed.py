"""A table undone place by place along an order, with both its factors packed into one table."""

from bandwright.orders import later
from bandwright.shapes import shape_of


# Where the numbers of the lower factor come to stand, undoing leaves noughts, so they need no table of their own.
def undo_place(world, work, place, others):
    head = work[place]
    for i in others:
        row = work[i]
        row[place] = world.over(row[place], head[place])
        for j in others:
            row[j] = world.minus(row[j], world.times(row[place], head[j]))


# Tells the packed table, the later places of each place, and how many places are tied: None where none are.
def packed(world, table, order):
    others = later(shape_of(world, table), order)
    work = [list(row) for row in table]
    for turn, place in enumerate(order):
        if work[place][place] == world.of(0):
            return (work, others, turn + 1)
        undo_place(world, work, place, others[place])
    return (work, others, None)
