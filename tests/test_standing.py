import unittest
from copy import deepcopy
from itertools import permutations, product
from random import Random
from unittest import mock

from bandwright import standing
from bandwright.along import along
from bandwright.errors import NoFit, NoLink, NoOrder
from bandwright.factors import factors
from bandwright.orders import deeds
from bandwright.shapes import shape_of
from bandwright.standing import Standing
from bandwright.tables import one_table
from bandwright.worlds import World
from oracles import (SEVEN, SMALL_WHEELS, WORLDS, all_rows, filled_by_walks, linked, lists_within, no_orders, noughts,
                     ordered_tables, some_number, some_order, some_row, some_table, spoil, stepped, tables_of)
from samples import FRACTIONS, GREAT, GREAT_TOO


def above_by_words(shape, order, place):
    """The first in the order of those that come later and are linked to it in the filled shape."""
    after = order[order.index(place) + 1:]
    return next((other for other in after if linked(shape, place, other)), None)


def anew_by_words(shape, order, i, j):
    place = min((i, j), key=order.index)
    told = []
    while place is not None:
        told.append(place)
        place = above_by_words(shape, order, place)
    return told


class Checked:
    """A standing table beside what the document says of it."""

    def __init__(self, test, world, table, order):
        self.test, self.world, self.order = test, world, list(order)
        self.stands = Standing(world, table, order)
        self.table = deepcopy(table)
        self.whole = filled_by_walks(shape_of(world, table), order)
        self.deeds = deeds(shape_of(world, table), order)

    def check(self, aim):
        right = along(self.world, self.table, self.order, aim)
        if right[0] == "one":
            right = ("one", right[1], self.deeds)
        self.test.assertEqual(self.stands.ask(aim), right)
        self.test.assertEqual(self.stands.now(), self.table)
        self.test.assertEqual(self.stands.kept(), factors(self.world, self.table, self.order))
        return right[0]

    def change(self, i, j, number):
        before = self.stands.kept()
        if not (i == j or linked(self.whole, i, j)):
            with self.test.assertRaises(NoLink):
                self.stands.change(i, j, number)
            self.test.assertEqual(self.stands.kept(), before)
            return
        told = self.stands.change(i, j, number)
        self.test.assertEqual(told, anew_by_words(self.whole, self.order, i, j))
        self.table[i][j] = number
        self.check_difference(told, before, self.stands.kept())

    def check_difference(self, told, before, behind):
        if before is None or behind is None:
            return
        for a, b in product(range(len(self.order)), repeat=2):
            if min((a, b), key=self.order.index) not in told:
                for one, other in zip(before, behind):
                    self.test.assertEqual(one[a][b], other[a][b])

    def check_above(self):
        for place in self.order:
            self.test.assertEqual(self.stands.above(place), above_by_words(self.whole, self.order, place))


BAND = [[2, 1, 0, 0], [1, 2, 1, 0], [0, 1, 2, 1], [0, 0, 1, 2]]
RING = [[3, 1, 0, 1], [1, 3, 1, 0], [0, 1, 3, 1], [1, 0, 1, 3]]


class Above(unittest.TestCase):
    def test_by_hand(self):
        stands = Standing(SEVEN, BAND, [0, 1, 2, 3])
        self.assertEqual([stands.above(place) for place in range(4)], [1, 2, 3, None])
        stands = Standing(SEVEN, BAND, [1, 2, 3, 0])
        self.assertEqual([stands.above(place) for place in range(4)], [None, 2, 3, 0])
        stands = Standing(SEVEN, BAND, [0, 3, 1, 2])
        self.assertEqual([stands.above(place) for place in range(4)], [1, 2, None, 2])
        stands = Standing(SEVEN, RING, [0, 2, 1, 3])
        self.assertEqual([stands.above(place) for place in range(4)], [1, 3, 1, None])
        stands = Standing(SEVEN, one_table(SEVEN, 3), [2, 0, 1])
        self.assertEqual([stands.above(place) for place in range(3)], [None, None, None])

    def test_tables_of_all_sorts(self):
        for world, table, order, aim in ordered_tables(WORLDS, [1, 2, 3, 4, 6], 1):
            Checked(self, world, table, order).check_above()

    def test_all_orders(self):
        for order in permutations(range(4)):
            for table in (BAND, RING):
                Checked(self, SEVEN, table, list(order)).check_above()

    def test_it_is_that_of_the_first_table_whatever_is_changed(self):
        stands = Checked(self, SEVEN, RING, [0, 1, 2, 3])
        for i, j in product(range(4), repeat=2):
            stands.change(i, j, 0)
            stands.check_above()
            stands.change(i, j, 5)
            stands.check_above()


class Change(unittest.TestCase):
    def test_by_hand(self):
        stands = Standing(SEVEN, BAND, [0, 1, 2, 3])
        self.assertEqual(stands.change(0, 0, 5), [0, 1, 2, 3])
        self.assertEqual(stands.change(2, 2, 5), [2, 3])
        self.assertEqual(stands.change(2, 1, 5), [1, 2, 3])
        self.assertEqual(stands.change(1, 2, 5), [1, 2, 3])
        self.assertEqual(stands.change(3, 3, 5), [3])
        self.assertEqual(stands.now(), [[5, 1, 0, 0], [1, 2, 5, 0], [0, 5, 5, 1], [0, 0, 1, 5]])
        stands = Standing(SEVEN, BAND, [0, 3, 1, 2])
        self.assertEqual(stands.change(3, 3, 5), [3, 2])
        self.assertEqual(stands.change(3, 2, 5), [3, 2])
        self.assertEqual(stands.change(0, 1, 5), [0, 1, 2])
        self.assertEqual(stands.change(2, 2, 5), [2])

    def test_at_links_that_filling_put_in(self):
        stands = Checked(self, SEVEN, RING, [0, 1, 2, 3])
        self.assertEqual(RING[1][3], 0)
        self.assertEqual(stands.stands.change(1, 3, 4), [1, 2, 3])
        stands.table[1][3] = 4
        stands.check([1, 2, 3, 4])
        self.assertEqual(stands.stands.change(3, 1, 6), [1, 2, 3])
        stands.table[3][1] = 6
        stands.check([1, 2, 3, 4])
        with self.assertRaises(NoLink):
            stands.stands.change(0, 2, 4)
        stands.check([1, 2, 3, 4])

    def test_with_the_number_that_stood_there(self):
        for world, table, order, aim in ordered_tables(WORLDS, [1, 2, 4], 2):
            stands = Checked(self, world, table, order)
            for i, j in product(range(len(order)), repeat=2):
                stands.change(i, j, table[i][j])
                stands.check(aim)

    def test_every_place_of_tables_of_all_sorts(self):
        kinds = set()
        for world, table, order, aim in ordered_tables(WORLDS, [1, 2, 3, 4], 3):
            random = Random(f"{table} {order}")
            stands = Checked(self, world, table, order)
            kinds.add((world.told(), stands.check(aim)))
            for i, j in product(range(len(order)), repeat=2):
                stands.change(i, j, some_number(world, random))
                kinds.add((world.told(), stands.check(aim)))
        self.assertEqual(len(kinds), 2 * len(WORLDS))

    def test_many_changes(self):
        for world, table, order, aim in ordered_tables(WORLDS, [3, 5, 7], 4):
            random = Random(f"{table} {order} 2")
            stands = Checked(self, world, table, order)
            for turn in range(12):
                i, j = random.choice(order), random.choice(order)
                stands.change(i, j, random.choice([world.of(0), world.of(1), some_number(world, random)]))
                if turn % 3 == 0:
                    stands.check(aim)
            stands.check(aim)

    def test_it_stops_and_no_longer_does(self):
        for world in WORLDS:
            nought, one = world.of(0), world.of(1)
            for n in (1, 2, 3, 5):
                for order in (list(range(n)), some_order(Random(n), n)):
                    stands = Checked(self, world, one_table(world, n), order)
                    self.assertEqual(stands.check([one] * n), "one")
                    for place in order:
                        stands.change(place, place, nought)
                        self.assertEqual(stands.check([one] * n), "stops")
                    for place in order:
                        self.assertEqual(stands.check([one] * n), "stops")
                        stands.change(place, place, one)
                    self.assertEqual(stands.check([one] * n), "one")

    def test_two_branches_that_both_stop(self):
        for world in WORLDS:
            nought, one = world.of(0), world.of(1)
            table = [[nought, nought, one], [nought, nought, one], [one, one, one]]
            for first, second in ((0, 1), (1, 0)):
                stands = Checked(self, world, table, [0, 1, 2])
                self.assertEqual(stands.stands.ask([one] * 3)[:2], ("stops", 1))
                stands.change(first, first, one)
                self.assertEqual(stands.stands.ask([one] * 3)[:2], ("stops", 2 if first == 0 else 1))
                stands.check([one] * 3)
                stands.change(2, 2, nought)
                stands.check([one] * 3)
                stands.change(second, second, world.of(-1))
                stands.check([one] * 3)
                stands.change(2, 2, one)
                stands.check([one] * 3)
                self.assertEqual(stands.stands.ask([one] * 3)[0], "one")

    def test_tables_that_stop_at_each_place(self):
        for world in WORLDS:
            for n in (2, 3, 5):
                for k in range(1, n):
                    stands = Checked(self, world, stepped(world, n, k), list(range(n)))
                    self.assertEqual(stands.check([world.of(1)] * n), "stops")
                    stands.change(k - 1, k - 1, world.of(1))
                    stands.check([world.of(1)] * n)
                    stands.change(k, k, world.of(2))
                    stands.check([world.of(1)] * n)

    def test_all_tables_of_the_wheel_of_two_changed_into_one_another(self):
        two = SMALL_WHEELS[0]
        tables = [[row[:2], row[2:]] for row in all_rows(2, 4)]
        for table in tables:
            for order in ([0, 1], [1, 0]):
                stands = Checked(self, two, table, order)
                for other in tables:
                    for i, j in product(range(2), repeat=2):
                        stands.change(i, j, other[i][j])
                        stands.check([1, 0])

    def test_places_that_are_not_linked(self):
        for world, table, order, aim in ordered_tables(WORLDS, [1, 2, 3, 5], 5):
            n = len(order)
            stands = Checked(self, world, table, order)
            beyond = (-1, -2, -n, -n - 1, n, n + 1, GREAT, -GREAT)
            pairs = [(i, j) for i in beyond for j in (0, n - 1, i, -1, n)]
            pairs += [(j, i) for i, j in pairs]
            pairs += [(i, j) for i, j in product(range(n), repeat=2) if i != j and not linked(stands.whole, i, j)]
            before = (stands.stands.now(), stands.stands.kept(), stands.stands.ask(aim))
            for i, j in pairs:
                with self.assertRaises(NoLink, msg=(i, j)):
                    stands.stands.change(i, j, world.of(1))
            self.assertEqual((stands.stands.now(), stands.stands.kept(), stands.stands.ask(aim)), before)
            stands.check(aim)

    def test_a_place_and_those_above_it_alone_are_done_anew(self):
        for world, table, order, aim in ordered_tables(WORLDS, [1, 3, 5], 6):
            stands = Checked(self, world, table, order)
            for i, j in product(range(len(order)), repeat=2):
                if i == j or linked(stands.whole, i, j):
                    with mock.patch.object(standing, "undo_from", wraps=standing.undo_from) as done:
                        told = stands.stands.change(i, j, world.of(1))
                        stands.stands.ask(aim)
                        stands.stands.kept()
                    places = [call.args[3] for call in done.call_args_list]
                    self.assertLessEqual(set(places), set(told))
                    if stands.stands.kept() is not None:
                        self.assertEqual(places, told)

    def test_bands_of_forty(self):
        for world in WORLDS[:3]:
            table = [[world.of({0: 5, 1: 1}.get(abs(i - j), 0)) for j in range(40)] for i in range(40)]
            for order in (list(range(40)), list(range(0, 40, 2)) + list(range(1, 40, 2))):
                stands = Checked(self, world, table, order)
                for i, j in ((0, 0), (39, 39), (7, 8), (8, 7), (20, 20), (3, 30), (20, 20)):
                    stands.change(i, j, world.of(i - 20))
                    stands.check([world.of(place) for place in range(40)])

    def test_forty_places_all_linked(self):
        for world in WORLDS[:2]:
            stands = Checked(self, world, some_table(world, Random(40), 40, 40, 2), some_order(Random(1), 40))
            stands.check([world.of(1)] * 40)
            stands.change(11, 3, world.of(7, 2))
            stands.check([world.of(1)] * 40)

    def test_three_hundred_figures(self):
        table = [[(GREAT, 1), FRACTIONS.of(1, GREAT_TOO), (0, 1)], [FRACTIONS.of(GREAT, GREAT_TOO), (1, 1), (3, 1)],
                 [(0, 1), (GREAT, 1), FRACTIONS.of(7, GREAT)]]
        aim = [(GREAT_TOO, 1), FRACTIONS.of(GREAT, 10 ** 299), (0, 1)]
        for order in permutations(range(3)):
            stands = Checked(self, FRACTIONS, table, list(order))
            stands.check(aim)
            for i, j, number in ((1, 1, (GREAT_TOO, 1)), (0, 1, FRACTIONS.of(1, GREAT)), (0, 0, (0, 1)), (0, 2, (GREAT, 1)),
                                 (0, 0, (-GREAT, 7))):
                stands.change(i, j, number)
                stands.check(aim)


class Asked(unittest.TestCase):
    def test_by_hand(self):
        stands = Standing(SEVEN, [[1, 2], [3, 4]], [0, 1])
        self.assertEqual(stands.ask([5, 4]), ("one", [1, 2], 6))
        self.assertEqual(stands.kept(), ([[1, 0], [3, 1]], [[1, 2], [0, 5]]))
        self.assertEqual(stands.change(1, 0, 0), [0, 1])
        self.assertEqual(stands.ask([5, 4]), ("one", [3, 1], 6))
        self.assertEqual(stands.change(0, 1, 0), [0, 1])
        self.assertEqual(stands.ask([5, 4]), ("one", [5, 1], 6))
        self.assertEqual(stands.change(0, 0, 0), [0, 1])
        self.assertEqual(stands.ask([5, 4]), ("stops", 1, [1, 0]))
        self.assertIs(stands.kept(), None)
        self.assertEqual(stands.now(), [[0, 0], [0, 4]])

    def test_the_deeds_are_those_of_the_first_table(self):
        world = World(("wheel", 997))
        stands = Standing(world, RING, [0, 1, 2, 3])
        for place, other in ((0, 1), (1, 0), (1, 3), (3, 1), (2, 3)):
            self.assertEqual(stands.ask([1, 2, 3, 4])[2], 28)
            stands.change(place, other, 0)
        self.assertEqual(stands.ask([1, 2, 3, 4])[2], 28)
        self.assertLess(along(world, stands.now(), [0, 1, 2, 3], [1, 2, 3, 4])[2], 28)

    def test_tables_of_all_sorts(self):
        for world, table, order, aim in ordered_tables(WORLDS, [1, 2, 3, 4, 5], 7):
            stands = Checked(self, world, table, order)
            stands.check(aim)
            self.assertEqual(stands.stands.ask(aim), along(world, table, order, aim))

    def test_aims_that_do_not_fit(self):
        for world in WORLDS:
            for n in (1, 2, 3, 40):
                for table in (one_table(world, n), [noughts(world, n) for row in range(n)]):
                    stands = Standing(world, table, list(range(n)))
                    for many in {0, n - 1, n + 1, 41} - {n}:
                        with self.assertRaises(NoFit):
                            stands.ask(noughts(world, many))
                    stands.ask(noughts(world, n))

    def test_tables_and_orders_that_do_not_fit(self):
        for world in WORLDS:
            for n, m in ((1, 2), (2, 1), (2, 3), (3, 2), (40, 39)):
                for order in [list(range(n)), list(range(m))] + no_orders(n):
                    with self.assertRaises(NoFit):
                        Standing(world, some_table(world, Random(n), n, m), order)
            for n in (1, 2, 3, 5):
                for table in (one_table(world, n), [noughts(world, n) for row in range(n)]):
                    for order in no_orders(n):
                        with self.assertRaises(NoOrder):
                            Standing(world, table, order)

    def test_arguments_by_name(self):
        stands = Standing(world=SEVEN, table=[[2]], order=[0])
        self.assertIs(stands.above(place=0), None)
        self.assertEqual(stands.change(i=0, j=0, number=3), [0])
        self.assertEqual(stands.ask(aim=[6]), ("one", [2], 1))


class NothingKept(unittest.TestCase):
    def test_what_is_handed_in(self):
        for world, table, order, aim in ordered_tables(WORLDS[:4], [1, 2, 4], 8):
            handed, turns, asked = deepcopy(table), list(order), list(aim)
            stands = Checked(self, world, handed, turns)
            stands.check(asked)
            stands.change(order[0], order[0], world.of(1))
            stands.stands.ask(asked)
            self.assertEqual((handed, turns, asked), (table, order, aim))
            spoil([handed, turns, asked])
            stands.check(aim)
            stands.check_above()
            stands.change(order[-1], order[-1], world.of(1))
            stands.check(aim)

    def test_what_is_told(self):
        for world, table, order, aim in ordered_tables(WORLDS[:4], [1, 2, 4], 9):
            stands = Checked(self, world, table, order)
            for turn in range(2):
                for tell in (stands.stands.now, stands.stands.kept, lambda: stands.stands.ask(aim)):
                    first, second = tell(), tell()
                    within = lists_within(first)
                    ids = {id(each) for each in within}
                    self.assertEqual(len(ids), len(within))
                    self.assertFalse(ids & {id(each) for each in lists_within(second)})
                    self.assertFalse(ids & {id(each) for each in lists_within(list(vars(stands.stands).values()))})
                    if first is not None:
                        spoil(first)
                    self.assertEqual(tell(), second)
                    stands.check(aim)
                told = stands.stands.change(order[0], order[0], table[order[0]][order[0]])
                spoil(told)
                self.assertEqual(stands.stands.change(order[0], order[0], table[order[0]][order[0]]),
                                 anew_by_words(stands.whole, order, order[0], order[0]))
                stands.check(aim)

    def test_two_of_one_table_changed_by_turns(self):
        for world in WORLDS:
            for table in tables_of(world, 4, 4, 10):
                random = Random(f"{table}")
                order = some_order(random, 4)
                both = [Checked(self, world, table, order), Checked(self, world, table, order),
                        Checked(self, world, table, order[::-1])]
                for turn in range(12):
                    stands = both[turn % 3]
                    stands.change(random.choice(order), random.choice(order), some_number(world, random))
                    for each in both:
                        each.check(some_row(world, random, 4))

    def test_the_world_that_is_handed_in(self):
        world = World(("wheel", 7))
        stands = Standing(world, [[1, 2], [3, 4]], [0, 1])
        vars(world).clear()
        self.assertEqual(stands.ask([5, 4]), ("one", [1, 2], 6))
        self.assertEqual(stands.change(1, 0, 0), [0, 1])
        self.assertEqual(stands.ask([5, 4]), ("one", [3, 1], 6))


if __name__ == "__main__":
    unittest.main()
