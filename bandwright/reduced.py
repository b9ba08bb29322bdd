"""The reduced form of a table: every row begins with a one, which stands alone in its column, its lead."""

from bandwright.tables import width


# Among the fractions each step is parted by the lead of the step before it. This always comes out even, as the
# numbers are then determinants of parts of the table, so they stay short, and no common divisors are searched for.
def cleared(world, row, head, lead, last):
    much = head[lead]
    less = row[lead]
    if world.prime is None:
        return [(much * a - less * b) // last for a, b in zip(row, head)]
    return [(much * a - less * b) % world.prime for a, b in zip(row, head)]


def first_filled(rows, start, lead):
    for place in range(start, len(rows)):
        if rows[place][lead] != 0:
            return place
    return None


def swapped(rows, one, other):
    told = list(rows)
    told[one] = rows[other]
    told[other] = rows[one]
    return told


def row_over(world, row, lead):
    return [world.of(number, row[lead]) for number in row]


# Tells the rows that aren't all noughts, and their leads, rising. Each row that the table's rows can make is made of
# these in one way, which its numbers at the leads tell.
def reduced(world, table):
    rows = [world.as_wholes(row)[0] for row in table]
    leads = []
    last = 1
    for lead in range(width(table)):
        turn = len(leads)
        found = first_filled(rows, turn, lead)
        if found is not None:
            rows = swapped(rows, turn, found)
            head = rows[turn]
            rows = [cleared(world, row, head, lead, last) for row in rows]
            rows[turn] = head
            last = head[lead]
            leads.append(lead)
    return ([row_over(world, row, lead) for row, lead in zip(rows, leads)], leads)
