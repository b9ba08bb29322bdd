"""Tables undone plainly: one row, many, or a row that bars, each of which can be shown."""

from bandwright.errors import Tied
from bandwright.reduced import reduced
from bandwright.tables import carried, check_aim, columns, has_size, one_table, paired_sum, square_size, through, width


def beside(table, other):
    return [row + more for row, more in zip(table, other)]


# Of a table and its aim beside it, reduced, the aim's numbers stand behind those of the wide columns.
def answer_of(world, rows, leads, wide):
    answer = [world.of(0)] * wide
    for row, lead in zip(rows, leads):
        answer[lead] = row[wide]
    return answer


def move_of(world, rows, leads, wide, free):
    move = [world.of(0)] * wide
    move[free] = world.of(1)
    for row, lead in zip(rows, leads):
        move[lead] = world.minus(world.of(0), row[free])
    return move


# What a bar must do is again a table and an aim: the columns come to nought, the aim to one. It has an answer just
# where the asker's table and aim have none.
def bar_of(world, table, aim):
    asked = columns(table) + [aim]
    wanted = [[world.of(0)]] * (len(asked) - 1) + [[world.of(1)]]
    told = reduced(world, beside(asked, wanted))
    return answer_of(world, told[0], told[1], len(table))


def undone(world, table, aim):
    wide = width(table)
    check_aim(len(table), aim)
    told = reduced(world, beside(table, [[number] for number in aim]))
    rows = told[0]
    leads = told[1]
    if wide in leads:
        return ("barred", bar_of(world, table, aim))
    answer = answer_of(world, rows, leads, wide)
    if len(leads) == wide:
        return ("one", answer)
    moves = [move_of(world, rows, leads, wide, free) for free in range(wide) if free not in leads]
    return ("many", answer, moves)


def is_nought_row(world, row):
    return row == [world.of(0)] * len(row)


def is_answer(world, table, aim, row):
    return len(row) == width(table) and carried(world, table, row) == aim


def is_bar(world, table, aim, row):
    if len(row) != len(table) or len(aim) != len(table):
        return False
    return is_nought_row(world, through(world, row, table)) and paired_sum(world, row, aim) == world.of(1)


def is_move(world, table, row):
    return is_nought_row(world, carried(world, table, row))


# So many rows that are carried to noughts, none made of the others, make all of them.
def are_moves(world, table, rows):
    wide = width(table)
    if not has_size(rows, wide - len(reduced(world, table)[1]), wide):
        return False
    return len(reduced(world, rows)[1]) == len(rows) and all([is_move(world, table, row) for row in rows])


# The back of a table times another one, or None where there is no back. Where only this is asked for, the back itself
# needn't be found.
def back_times(world, table, other):
    n = square_size(table)
    told = reduced(world, beside(table, other))
    if told[1] != list(range(n)):
        return None
    return [row[n:] for row in told[0]]


def back_of(world, table):
    return back_times(world, table, one_table(world, square_size(table)))


# Any row, not all noughts, that is carried to noughts; None where there is none.
def some_move(world, table):
    wide = width(table)
    told = reduced(world, table)
    free = [place for place in range(wide) if place not in told[1]]
    if len(free) == 0:
        return None
    return move_of(world, told[0], told[1], wide, free[0])


def sure_back_times(world, table, other):
    told = back_times(world, table, other)
    if told is None:
        raise Tied(some_move(world, table))
    return told
