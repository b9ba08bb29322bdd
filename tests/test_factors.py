import unittest
from itertools import permutations, product
from random import Random

from bandwright.errors import NoFit, NoOrder
from bandwright.factors import are_factors, factors
from bandwright.shapes import shape_of
from bandwright.tables import is_table, one_table
from bandwright.worlds import World
from oracles import (SEVEN, WORLDS, Owned, all_rows, changed, expected_product, filled_by_walks, linked, no_orders,
                     noughts, ordered_tables, some_table, stepped, tied, turned_about)
from samples import FRACTIONS, GREAT, GREAT_TOO

TWO = World(("wheel", 2))


def is_lower(world, table, order):
    return all(table[i][j] == (world.of(1) if i == j else world.of(0)) or order.index(j) < order.index(i) and i != j
               for i in range(len(order)) for j in range(len(order)))


def is_upper(world, table, order):
    return all(table[i][j] == world.of(0) or order.index(j) >= order.index(i)
               for i in range(len(order)) for j in range(len(order)))


def are_by_words(world, table, order, lower, upper):
    return (is_lower(world, lower, order) and is_upper(world, upper, order)
            and expected_product(world, lower, upper) == table)


class Factors(unittest.TestCase):
    def check(self, world, table, order):
        came = factors(world, table, order)
        if tied(world, table, order) is not None:
            self.assertIs(came, None)
            return None
        self.assertIs(type(came), tuple)
        lower, upper = came
        self.assertIs(is_table(world, lower), True)
        self.assertIs(is_table(world, upper), True)
        self.assertTrue(is_lower(world, lower, order))
        self.assertTrue(is_upper(world, upper, order))
        self.assertEqual(expected_product(world, lower, upper), table)
        whole = filled_by_walks(shape_of(world, table), order)
        for i, j in permutations(range(len(order)), 2):
            if not linked(whole, i, j):
                self.assertEqual((lower[i][j], upper[i][j]), (world.of(0), world.of(0)))
        self.assertIs(are_factors(world, table, order, lower, upper), True)
        return came

    def test_by_hand(self):
        self.assertEqual(factors(SEVEN, [[3]], [0]), ([[1]], [[3]]))
        self.assertEqual(factors(SEVEN, [[1, 2], [3, 4]], [0, 1]), ([[1, 0], [3, 1]], [[1, 2], [0, 5]]))
        self.assertEqual(factors(SEVEN, [[1, 2], [3, 4]], [1, 0]), ([[1, 4], [0, 1]], [[3, 0], [3, 4]]))
        self.assertEqual(factors(FRACTIONS, [[(2, 1), (1, 1)], [(1, 1), (0, 1)]], [0, 1]),
                         ([[(1, 1), (0, 1)], [(1, 2), (1, 1)]], [[(2, 1), (1, 1)], [(0, 1), (-1, 2)]]))

    def test_tables_of_all_sorts(self):
        kinds = set()
        for world, table, order, aim in ordered_tables(WORLDS, [1, 2, 3, 4, 5], 6):
            kinds.add((world.told(), self.check(world, table, order) is None))
        self.assertEqual(len(kinds), 2 * len(WORLDS))

    def test_every_table_of_the_wheel_of_two(self):
        for n in (1, 2, 3):
            for mask in range(2 ** (n * n)):
                table = [[mask >> (i * n + j) & 1 for j in range(n)] for i in range(n)]
                for order in permutations(range(n)) if n < 3 else [(0, 1, 2), (2, 0, 1), (1, 0, 2)]:
                    self.check(TWO, table, list(order))

    def test_none_where_it_stops(self):
        for world in WORLDS:
            for n in (1, 2, 3, 5):
                for k in range(1, n):
                    self.assertIs(factors(world, stepped(world, n, k), list(range(n))), None)
                table = one_table(world, n)
                table[n - 1] = noughts(world, n)
                self.assertEqual(tied(world, table, list(range(n))), n)
                self.assertIs(factors(world, table, list(range(n))), None)
                alike = [[world.of(1)] * n for row in range(n)]
                if n > 1:
                    self.assertIs(factors(world, alike, list(range(n))), None)

    def test_just_these_two(self):
        """On the wheel of two, by going through all tables of both forms."""
        for order in ([0, 1], [1, 0]):
            first, second = order
            for rows in product(all_rows(2, 2), repeat=2):
                table = [list(row) for row in rows]
                found = []
                for a, b, c, d in product(range(2), repeat=4):
                    lower = one_table(TWO, 2)
                    lower[second][first] = a
                    upper = [[0, 0], [0, 0]]
                    upper[first][first], upper[first][second], upper[second][second] = b, c, d
                    right = expected_product(TWO, lower, upper) == table
                    self.assertIs(are_factors(TWO, table, order, lower, upper), right)
                    if right:
                        found.append((lower, upper))
                if tied(TWO, table, order) is None:
                    self.assertEqual(found, [factors(TWO, table, order)])

    def test_bands_of_forty(self):
        for world in WORLDS[:3]:
            lower = [[number if 0 < i - j <= 2 else world.of(int(i == j)) for j, number in enumerate(row)]
                     for i, row in enumerate(some_table(world, Random(2), 40, 40, 3))]
            upper = turned_about(lower)
            table = expected_product(world, lower, upper)
            order = list(range(40))
            self.assertEqual(factors(world, table, order), (lower, upper))
            self.assertIs(are_factors(world, table, order, lower, upper), True)

    def test_three_hundred_figures(self):
        table = [[(GREAT, 1), FRACTIONS.of(1, GREAT_TOO), (1, 1)], [FRACTIONS.of(GREAT, GREAT_TOO), (1, 1), (0, 1)],
                 [(-GREAT_TOO, 1), (GREAT, 1), FRACTIONS.of(7, GREAT)]]
        for order in permutations(range(3)):
            self.check(FRACTIONS, table, list(order))

    def test_refusals(self):
        for world in WORLDS:
            for n, m in ((1, 2), (2, 1), (2, 3), (3, 2), (40, 39)):
                table = some_table(world, Random(n), n, m)
                for order in [list(range(n)), list(range(m))] + no_orders(n):
                    with self.assertRaises(NoFit):
                        factors(world, table, order)
                    with self.assertRaises(NoFit):
                        are_factors(world, table, order, one_table(world, n), one_table(world, n))
            for n in (1, 2, 3, 5):
                for table in (one_table(world, n), [noughts(world, n) for row in range(n)]):
                    for order in no_orders(n):
                        with self.assertRaises(NoOrder):
                            factors(world, table, order)
                        with self.assertRaises(NoOrder):
                            are_factors(world, table, order, one_table(world, n), table)

    def test_arguments_by_name(self):
        self.assertEqual(factors(world=SEVEN, table=[[3]], order=[0]), ([[1]], [[3]]))


class AreFactors(unittest.TestCase):
    def test_one_number_changed(self):
        for world, table, order, aim in ordered_tables(WORLDS, [1, 2, 3, 4], 7):
            came = factors(world, table, order)
            if came is None:
                continue
            for i, row in enumerate(table):
                for j in range(len(row)):
                    for side in (0, 1):
                        pair = [[list(each) for each in came[0]], [list(each) for each in came[1]]]
                        pair[side][i] = changed(world, pair[side][i], j)
                        self.assertIs(are_factors(world, table, order, pair[0], pair[1]), False)
                    other = [list(each) for each in table]
                    other[i] = changed(world, row, j)
                    self.assertIs(are_factors(world, other, order, came[0], came[1]), False)

    def test_of_these_forms_though_it_stops(self):
        for world in WORLDS:
            nought, one = world.of(0), world.of(1)
            alike = [[one, one], [one, one]]
            self.assertIs(factors(world, alike, [0, 1]), None)
            self.assertIs(are_factors(world, alike, [0, 1], [[one, nought], [one, one]], [[one, one], [nought, nought]]),
                          True)
            self.assertIs(are_factors(world, alike, [1, 0], [[one, one], [nought, one]], [[nought, nought], [one, one]]),
                          True)
            self.assertIs(are_factors(world, alike, [1, 0], [[one, nought], [one, one]], [[one, one], [nought, nought]]),
                          False)
            nothing = [noughts(world, 2), noughts(world, 2)]
            for number in (nought, one, world.of(-1)):
                lower = [[one, nought], [number, one]]
                self.assertIs(are_factors(world, nothing, [0, 1], lower, nothing), True)
                self.assertIs(are_factors(world, nothing, [1, 0], lower, nothing), number == nought)

    def test_products_of_both_forms(self):
        for world, low, order, aim in ordered_tables(WORLDS, [1, 2, 3, 4], 8):
            n = len(order)
            high = some_table(world, Random(n), n, n)
            lower = [[low[i][j] if order.index(j) < order.index(i) else world.of(int(i == j)) for j in range(n)]
                     for i in range(n)]
            upper = [[high[i][j] if order.index(j) >= order.index(i) else world.of(0) for j in range(n)]
                     for i in range(n)]
            table = expected_product(world, lower, upper)
            self.assertIs(are_factors(world, table, order, lower, upper), True)
            for other in (order[::-1], order[1:] + order[:1], order):
                right = are_by_words(world, table, other, lower, upper)
                self.assertIs(are_factors(world, table, other, lower, upper), right)
            if tied(world, table, order) is None:
                self.assertEqual(factors(world, table, order), (lower, upper))

    def test_of_other_forms(self):
        for world in WORLDS:
            for n in (1, 2, 3, 4):
                table = some_table(world, Random(n), n, n)
                order = list(range(n))
                one = one_table(world, n)
                for lower, upper in ((table, one), (one, table), (table, table), (one, one)):
                    right = are_by_words(world, table, order, lower, upper)
                    self.assertIs(are_factors(world, table, order, lower, upper), right)
        self.assertIs(are_factors(SEVEN, [[6]], [0], [[1]], [[6]]), True)
        self.assertIs(are_factors(SEVEN, [[6]], [0], [[2]], [[3]]), False)
        self.assertIs(are_factors(SEVEN, [[1, 1], [0, 1]], [0, 1], [[1, 1], [0, 1]], [[1, 0], [0, 1]]), False)
        self.assertIs(are_factors(SEVEN, [[1, 1], [0, 1]], [1, 0], [[1, 1], [0, 1]], [[1, 0], [0, 1]]), True)
        self.assertIs(are_factors(SEVEN, [[1, 0], [1, 1]], [0, 1], [[1, 0], [0, 1]], [[1, 0], [1, 1]]), False)
        self.assertIs(are_factors(SEVEN, [[0, 0], [0, 0]], [0, 1], [[0, 0], [0, 0]], [[0, 0], [0, 0]]), False)

    def test_of_other_sizes(self):
        for world in WORLDS:
            for n in (1, 2, 3):
                one = one_table(world, n)
                wide = [row + [world.of(0)] for row in one]
                longer = one + [noughts(world, n)]
                for other in (one_table(world, n + 1), wide, longer, one[:-1], [row[:-1] for row in one],
                              [one[0] + [world.of(0)]] + one[1:], wide + [noughts(world, n + 1)]):
                    for lower, upper in ((one, other), (other, one), (other, other)):
                        self.assertIs(are_factors(world, one, list(range(n)), lower, upper), False)

    def test_all_pairs_of_tables_of_the_wheel_of_two(self):
        tables = [[list(row) for row in rows] for rows in product(all_rows(2, 2), repeat=2)]
        for order in ([0, 1], [1, 0]):
            for lower, upper in product(tables, repeat=2):
                whole = expected_product(TWO, lower, upper)
                for table in (whole, tables[5], tables[6]):
                    right = are_by_words(TWO, table, order, lower, upper)
                    self.assertIs(are_factors(TWO, table, order, lower, upper), right)

    def test_arguments_by_name(self):
        self.assertIs(are_factors(world=SEVEN, table=[[3]], order=[0], lower=[[1]], upper=[[3]]), True)


class NothingKept(Owned, unittest.TestCase):
    def test_each(self):
        for world, table, order, aim in ordered_tables(WORLDS[:4], [1, 2, 4], 9):
            self.owned(lambda a, b: factors(world, a, b), [table, order])
            came = factors(world, table, order)
            if came is not None:
                self.owned(lambda a, b, c, d: are_factors(world, a, b, c, d), [table, order, came[0], came[1]])


if __name__ == "__main__":
    unittest.main()
