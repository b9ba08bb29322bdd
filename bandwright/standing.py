"""Standing tables: undone along an order, and behind a change undone anew only where it reaches."""

from bandwright.along import lowered, raised, tied_move
from bandwright.errors import NoLink
from bandwright.factors import lower_of, upper_of
from bandwright.orders import later, place_deeds, turns_of
from bandwright.ranks import picked
from bandwright.shapes import is_place, shape_of
from bandwright.tables import check_aim, column, paired_sum
from bandwright.worlds import World


# For each place those, in the order, of whose later places it is one: what they do to it stands in their factors.
def places_under(others, order):
    told = [[] for place in order]
    for place in order:
        for other in others[place]:
            told[other].append(place)
    return told


# The table's number, less all that the places under do there.
def left_at(world, table, work, i, j, under):
    done = paired_sum(world, picked(work[i], under), picked(column(work, j), under))
    return world.minus(table[i][j], done)


# Reckons what the factors have at a place and its later ones from the table and the factors of the places under it, so
# that nothing of how they stood before is needed. Tells whether the place could be undone.
def undo_from(world, table, work, place, others, under):
    head = left_at(world, table, work, place, place, under)
    work[place][place] = head
    if head == world.of(0):
        return False
    for other in others:
        work[place][other] = left_at(world, table, work, place, other, under)
        work[other][place] = world.over(left_at(world, table, work, other, place, under), head)
    return True


class Standing:
    # Both factors are packed into work. What stands there of a place is right where it is ready: where it can be
    # undone, and all places under it are ready.
    def __init__(self, world, table, order):
        self.others = later(shape_of(world, table), order)
        self.world = World(world.told())
        self.table = [list(row) for row in table]
        self.work = [list(row) for row in table]
        self.order = list(order)
        self.turns = turns_of(order)
        self.under = places_under(self.others, order)
        self.ready = [False] * len(order)
        for place in order:
            self.undo_anew(place)

    def undo_anew(self, place):
        under = self.under[place]
        others = self.others[place]
        ready = all([self.ready[each] for each in under])
        self.ready[place] = ready and undo_from(self.world, self.table, self.work, place, others, under)

    def above(self, place):
        return min(self.others[place], key=lambda other: self.turns[other], default=None)

    # The one of two places that comes first, or None where they aren't the same or linked.
    def first_of(self, i, j):
        if not is_place(i, len(self.order)) or not is_place(j, len(self.order)):
            return None
        if i == j or j in self.others[i]:
            return i
        return j if i in self.others[j] else None

    def change(self, i, j, number):
        place = self.first_of(i, j)
        if place is None:
            raise NoLink("the places aren't linked in the filled shape")
        self.table[i][j] = number
        told = []
        while place is not None:
            self.undo_anew(place)
            told.append(place)
            place = self.above(place)
        return told

    # Of the order, the turns of places that aren't ready: the first of them has nought as its own number.
    def stops(self):
        return [turn for turn, place in enumerate(self.order) if not self.ready[place]]

    def ask(self, aim):
        check_aim(len(self.order), aim)
        stops = self.stops()
        if len(stops) > 0:
            many = stops[0] + 1
            return ("stops", many, tied_move(self.world, self.work, self.others, self.order, many))
        left = lowered(self.world, self.work, self.others, self.order, aim)
        answer = raised(self.world, self.work, self.others, self.order, left)
        return ("one", answer, sum([place_deeds(len(each)) for each in self.others]))

    def now(self):
        return [list(row) for row in self.table]

    def kept(self):
        if len(self.stops()) > 0:
            return None
        return (lower_of(self.world, self.work, self.turns), upper_of(self.world, self.work, self.turns))
