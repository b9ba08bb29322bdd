import unittest
from itertools import permutations
from random import Random

from bandwright.along import along
from bandwright.errors import NoFit, NoOrder
from bandwright.orders import deeds
from bandwright.plain import undone
from bandwright.shapes import shape_of
from bandwright.tables import one_table
from bandwright.worlds import World
from oracles import (SEVEN, SMALL_WHEELS, WORLDS, Owned, all_rows, deeds_by_count, expected_carried, expected_product,
                     no_orders, noughts, ones_at, ordered_tables, some_order, some_row, some_table, stepped, tables_of,
                     tied, turned_about)
from samples import FRACTIONS, GREAT, GREAT_TOO

TWO = World(("wheel", 2))


class Counting(World):
    """Counts what the document calls deeds."""

    def __init__(self, told):
        World.__init__(self, told)
        self.done = 0

    def times(self, a, b):
        self.done += 1
        return World.times(self, a, b)

    def over(self, a, b):
        self.done += 1
        return World.over(self, a, b)


class Along(unittest.TestCase):
    def check_stop(self, world, table, order, came):
        k, move = came[1], came[2]
        self.assertEqual(len(came), 3)
        self.assertIs(type(k), int)
        self.assertIs(type(move), list)
        self.assertEqual(len(move), len(table))
        self.assertTrue(all(world.is_number(number) for number in move))
        self.assertEqual([move[place] for place in order[k:]], noughts(world, len(table) - k))
        self.assertEqual(move[order[k - 1]], world.of(1))
        carried = expected_carried(world, table, move)
        self.assertEqual([carried[place] for place in order[:k]], noughts(world, k))

    def check(self, world, table, order, aim):
        came = along(world, table, order, aim)
        self.assertIs(type(came), tuple)
        stop = tied(world, table, order)
        if stop is not None:
            self.assertEqual(came[:2], ("stops", stop))
            self.check_stop(world, table, order, came)
        else:
            self.assertEqual(came[0], "one")
            self.assertEqual(len(came), 3)
            self.assertIs(type(came[1]), list)
            self.assertEqual(("one", came[1]), undone(world, table, aim))
            self.assertEqual(expected_carried(world, table, came[1]), aim)
            self.assertEqual(came[2], deeds_by_count(shape_of(world, table), order))
        return came[0]

    def test_by_hand(self):
        self.assertEqual(along(SEVEN, [[2]], [0], [1]), ("one", [4], 1))
        self.assertEqual(along(SEVEN, [[0]], [0], [1]), ("stops", 1, [1]))
        self.assertEqual(along(SEVEN, [[1, 2], [3, 4]], [0, 1], [5, 4]), ("one", [1, 2], 6))
        self.assertEqual(along(SEVEN, [[1, 0], [0, 4]], [1, 0], [5, 4]), ("one", [5, 1], 2))
        self.assertEqual(along(SEVEN, [[1, 2], [2, 4]], [0, 1], [5, 4]), ("stops", 2, [5, 1]))
        self.assertEqual(along(SEVEN, [[1, 2], [2, 4]], [1, 0], [5, 4]), ("stops", 2, [1, 3]))
        self.assertEqual(along(FRACTIONS, [[(2, 1), (1, 1)], [(0, 1), (3, 1)]], [1, 0], [(0, 1), (1, 1)]),
                         ("one", [(-1, 6), (1, 3)], 6))
        self.assertEqual(along(FRACTIONS, [[(2, 1), (1, 1)], [(4, 1), (2, 1)]], [0, 1], [(0, 1), (1, 1)]),
                         ("stops", 2, [(-1, 2), (1, 1)]))

    def test_stops_though_all_of_it_could_be_undone(self):
        for world in WORLDS:
            nought, one = world.of(0), world.of(1)
            table = [[nought, one], [one, nought]]
            aim = [one, nought]
            self.assertEqual(undone(world, table, aim)[0], "one")
            self.assertEqual(along(world, table, [0, 1], aim), ("stops", 1, [one, nought]))
            self.assertEqual(along(world, table, [1, 0], aim), ("stops", 1, [nought, one]))

    def test_stops_at_each_place(self):
        for world in WORLDS:
            for n in (2, 3, 5):
                for k in range(1, n):
                    lower = [[number if j < i else world.of(int(i == j)) for j, number in enumerate(row)]
                             for i, row in enumerate(some_table(world, Random(k), n, n))]
                    crossed = stepped(world, n, k)
                    dense = expected_product(world, lower, expected_product(world, crossed, turned_about(lower)))
                    for table in (crossed, dense):
                        self.assertEqual(undone(world, table, noughts(world, n))[0], "one")
                        self.assertEqual(tied(world, table, list(range(n))), k)
                        self.assertEqual(self.check(world, table, list(range(n)), [world.of(1)] * n), "stops")

    def test_stops_at_the_last_place(self):
        for world in WORLDS:
            for n in (1, 2, 3, 5):
                table = one_table(world, n)
                table[n - 1] = noughts(world, n)
                came = along(world, table, list(range(n)), noughts(world, n))
                self.assertEqual(came, ("stops", n, ones_at(world, n, n - 1)))

    def test_tables_of_all_sorts(self):
        kinds = set()
        for world, table, order, aim in ordered_tables(WORLDS, [1, 2, 3, 4, 5]):
            kinds.add((world.told(), self.check(world, table, order, aim)))
        self.assertEqual(len(kinds), 2 * len(WORLDS))

    def test_all_orders(self):
        for world in WORLDS:
            for table in tables_of(world, 4, 4, 2)[:4]:
                aim = some_row(world, Random(4), 4)
                for order in permutations(range(4)):
                    self.check(world, table, list(order), aim)

    def test_every_table_of_the_wheel_of_two(self):
        for n in (1, 2, 3):
            rows = all_rows(2, n)
            for mask in range(2 ** (n * n)):
                table = [[mask >> (i * n + j) & 1 for j in range(n)] for i in range(n)]
                order = some_order(Random(mask), n)
                self.check(TWO, table, order, rows[mask % len(rows)])

    def test_what_tied_means_by_going_through_all_rows(self):
        for world, table, order, aim in ordered_tables(SMALL_WHEELS[:2], [1, 2, 3], 3):
            n = len(order)
            showing = {}
            for row in all_rows(world.told()[1], n):
                came = expected_carried(world, table, row)
                for k in range(1, n + 1):
                    ends = any(row) and not any(row[place] for place in order[k:])
                    if ends and not any(came[place] for place in order[:k]):
                        showing.setdefault(k, []).append(row)
            told = along(world, table, order, aim)
            if not showing:
                self.assertEqual(told[0], "one")
            else:
                k = min(showing)
                self.assertEqual([told], [("stops", k, row) for row in showing[k] if row[order[k - 1]] == 1])

    def test_bands_of_forty(self):
        for world in WORLDS[:3]:
            for w in (0, 1, 3):
                random = Random(w)
                lower = [[number if 0 < i - j <= w else world.of(int(i == j)) for j, number in enumerate(row)]
                         for i, row in enumerate(some_table(world, random, 40, 40, 3))]
                table = expected_product(world, lower, turned_about(lower))
                row = some_row(world, random, 40)
                aim = expected_carried(world, table, row)
                order = list(range(40))
                many = deeds(shape_of(world, table), order)
                self.assertEqual(along(world, table, order, aim), ("one", row, many))
                table[39] = [world.minus(number, world.of(int(j == 39))) for j, number in enumerate(table[39])]
                came = along(world, table, order, aim)
                self.assertEqual(came[:2], ("stops", 40))
                self.check_stop(world, table, order, came)

    def test_forty_places_all_linked(self):
        for world in WORLDS[:2]:
            random = Random(40)
            lower = [[number if j < i else world.of(int(i == j)) for j, number in enumerate(row)]
                     for i, row in enumerate(some_table(world, random, 40, 40, 2))]
            table = expected_product(world, lower, turned_about(lower))
            row = some_row(world, random, 40)
            order = list(range(40))
            self.assertEqual(along(world, table, order, expected_carried(world, table, row)),
                             ("one", row, deeds(shape_of(world, table), order)))

    def test_three_hundred_figures(self):
        table = [[(GREAT, 1), FRACTIONS.of(1, GREAT_TOO), (1, 1)], [FRACTIONS.of(GREAT, GREAT_TOO), (1, 1), (0, 1)],
                 [(-GREAT_TOO, 1), (GREAT, 1), FRACTIONS.of(7, GREAT)]]
        aim = [(GREAT_TOO, 1), FRACTIONS.of(GREAT, 10 ** 299), (0, 1)]
        for order in permutations(range(3)):
            self.check(FRACTIONS, table, list(order), aim)
        table[2] = [FRACTIONS.times(number, (GREAT_TOO, 3)) for number in table[0]]
        for order in permutations(range(3)):
            self.check(FRACTIONS, table, list(order), aim)

    def test_the_deeds_are_done(self):
        for told in (("fractions",), ("wheel", 5), ("wheel", 997)):
            for world, table, order, aim in ordered_tables([World(told)], [1, 2, 3, 5, 8], 4):
                counting = Counting(told)
                came = along(counting, table, order, aim)
                if came[0] == "one":
                    self.assertEqual(counting.done, came[2])

    def test_the_deeds_are_those_of_the_shape_whatever_the_numbers(self):
        for world in WORLDS:
            table = [[world.of(int(i == j or j == 0)) for j in range(5)] for i in range(5)]
            self.assertEqual(along(world, table, [0, 1, 2, 3, 4], noughts(world, 5))[2], 29 + 19 + 11 + 5 + 1)
            self.assertEqual(along(world, table, [4, 3, 2, 1, 0], noughts(world, 5))[2], 5 * 4 + 1)

    def test_tables_and_aims_that_do_not_fit(self):
        for world in WORLDS:
            for n, m in ((1, 2), (2, 1), (2, 3), (3, 2), (40, 39)):
                table = some_table(world, Random(n), n, m)
                for order in [list(range(n)), list(range(m))] + no_orders(n):
                    for length in (0, n, m):
                        with self.assertRaises(NoFit):
                            along(world, table, order, noughts(world, length))
            for n in (1, 2, 3):
                for table in (one_table(world, n), [noughts(world, n) for row in range(n)]):
                    for order in [list(range(n))] + no_orders(n):
                        for length in (0, n - 1, n + 1, n + 2, 41):
                            with self.assertRaises(NoFit):
                                along(world, table, order, noughts(world, length))

    def test_what_is_no_order(self):
        for world in WORLDS:
            for n in (1, 2, 3, 5):
                for table in (one_table(world, n), [noughts(world, n) for row in range(n)]):
                    for order in no_orders(n):
                        with self.assertRaises(NoOrder):
                            along(world, table, order, noughts(world, n))

    def test_arguments_by_name(self):
        self.assertEqual(along(world=SEVEN, table=[[2]], order=[0], aim=[1]), ("one", [4], 1))


class NothingKept(Owned, unittest.TestCase):
    def test_each(self):
        for world, table, order, aim in ordered_tables(WORLDS[:4], [1, 2, 4], 5):
            self.owned(lambda a, b, c: along(world, a, b, c), [table, order, aim])


if __name__ == "__main__":
    unittest.main()
