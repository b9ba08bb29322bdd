"""Tables undone along an order: the one answer with its deeds, or the least part that is tied."""

from bandwright.orders import place_deeds
from bandwright.packed import packed
from bandwright.tables import check_aim


# Takes each place's part out of the aim at its later places.
def lowered(world, work, others, order, aim):
    left = list(aim)
    for place in order:
        for i in others[place]:
            left[i] = world.minus(left[i], world.times(work[i][place], left[place]))
    return left


# Comes back through the places, the last first; what stands in the row at later places is known by then.
def raised(world, work, others, places, row):
    told = list(row)
    for place in reversed(places):
        for j in others[place]:
            told[place] = world.minus(told[place], world.times(work[place][j], told[j]))
        told[place] = world.over(told[place], work[place][place])
    return told


# Undone as far as it goes, the table carries the move to nought at each place ahead, whatever stands at the last one:
# one is put there, and the others come of it.
def tied_move(world, work, others, order, many):
    start = [world.of(0)] * len(order)
    start[order[many - 1]] = world.of(1)
    return raised(world, work, others, order[:many - 1], start)


def along(world, table, order, aim):
    check_aim(len(table), aim)
    told = packed(world, table, order)
    work = told[0]
    others = told[1]
    if told[2] is not None:
        return ("stops", told[2], tied_move(world, work, others, order, told[2]))
    answer = raised(world, work, others, order, lowered(world, work, others, order, aim))
    return ("one", answer, sum([place_deeds(len(each)) for each in others]))
