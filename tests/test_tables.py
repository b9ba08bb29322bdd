import unittest
from fractions import Fraction

from bandwright.errors import NoFit
from bandwright.tables import carried, is_table, one_table, product, through
from bandwright.worlds import World
from oracles import SEVEN, Owned, expected_product, products_sum
from samples import FRACTIONS, GREAT, GREAT_TOO, fraction, other_things, told

WORLDS = [FRACTIONS, SEVEN, World(("wheel", 2)), World(("wheel", 997))]
SIZES = [(1, 1, 1), (1, 4, 2), (4, 1, 3), (2, 3, 4), (3, 3, 3), (5, 2, 1), (40, 3, 40), (1, 40, 1)]


def sample(world, n, m, seed=1):
    """A table with noughts, numbers of either sign and, among the fractions, unlike bottoms."""
    def entry(i, j):
        top = (i * i * 5 + i * j * 3 + j * 7 + seed * 11) % 13 - 5
        bottom = 1 if world.told() != ("fractions",) else 1 + (2 * i + j + seed) % 5
        return world.of(top, bottom)
    return [[entry(i, j) for j in range(m)] for i in range(n)]


class IsTable(unittest.TestCase):
    def test_bounds(self):
        for world in WORLDS:
            for n in (0, 1, 2, 39, 40, 41, 80):
                for m in (0, 1, 2, 39, 40, 41, 80):
                    right = 1 <= n <= 40 and 1 <= m <= 40
                    self.assertIs(is_table(world, [[world.of(1)] * m for i in range(n)]), right, (n, m))

    def test_tables_of_all_sorts(self):
        for world in WORLDS:
            for n, m, other in SIZES:
                self.assertIs(is_table(world, sample(world, n, m)), True)
        self.assertIs(is_table(FRACTIONS, [[(GREAT, GREAT_TOO), (-GREAT, 1)]]), True)

    def test_ragged_ones(self):
        for table in ([[1], [1, 2]], [[1, 2], [1]], [[1, 2], [1, 2], [1]], [[1, 2], []], [[], [1]],
                      [[1, 2], [1, 2, 3], [1, 2]], [[0] * 40, [0] * 39]):
            self.assertIs(is_table(SEVEN, table), False, table)

    def test_numbers_that_are_none(self):
        for bad in other_things() + [7, -1, GREAT, (0, 1), (1, 2)]:
            for table in ([[bad]], [[bad, 1], [1, 1]], [[1, 1], [1, bad]]):
                self.assertIs(is_table(SEVEN, table), False, bad)
        for bad in other_things() + [0, 1, (2, 4), (0, 2), (1, 0), (1, -2)]:
            for table in ([[bad]], [[bad, (1, 2)]], [[(1, 2)], [bad]]):
                self.assertIs(is_table(FRACTIONS, table), False, bad)

    def test_a_table_of_another_world(self):
        self.assertIs(is_table(World(("wheel", 5)), [[4]]), True)
        self.assertIs(is_table(World(("wheel", 5)), [[5]]), False)
        self.assertIs(is_table(FRACTIONS, sample(SEVEN, 2, 2)), False)
        self.assertIs(is_table(SEVEN, sample(FRACTIONS, 2, 2)), False)

    def test_rows_or_tables_that_are_no_lists(self):
        for table in (((1, 2), (3, 4)), [(1, 2), (3, 4)], ([1, 2], [3, 4]), [[1, 2], (3, 4)], {0: [1]}, [{0: 1}],
                      ["12"], [None], [1, 2], [[1], None], [[[1]]], "11", {(1,)}, iter([[1]])):
            self.assertIs(is_table(SEVEN, table), False, table)
        self.assertIs(is_table(FRACTIONS, ((1, 2), (3, 4))), False)
        self.assertIs(is_table(FRACTIONS, [(1, 2), (3, 4)]), False)

    def test_anything_else(self):
        for world in WORLDS:
            for thing in other_things():
                self.assertIs(is_table(world, thing), False, thing)
                if not isinstance(thing, list):
                    self.assertIs(is_table(world, [thing]), False, thing)

    def test_asking_changes_nothing(self):
        table = [[1, 2], [3]]
        is_table(SEVEN, table)
        self.assertEqual(table, [[1, 2], [3]])


class Carrying(unittest.TestCase):
    def test_by_hand(self):
        table = [[1, 2, 3], [4, 5, 6]]
        self.assertEqual(carried(SEVEN, table, [1, 0, 2]), [0, 2])
        self.assertEqual(through(SEVEN, [1, 1], table), [5, 0, 2])
        halves = [[(1, 2), (-1, 3)]]
        self.assertEqual(carried(FRACTIONS, halves, [(1, 1), (3, 1)]), [(-1, 2)])
        self.assertEqual(through(FRACTIONS, [(6, 1)], halves), [(3, 1), (-2, 1)])

    def test_sums(self):
        for world in WORLDS:
            for n, m, other in SIZES:
                table = sample(world, n, m)
                row = sample(world, 1, m, 3)[0]
                self.assertEqual(carried(world, table, row), [products_sum(world, zip(each, row)) for each in table])
                row = sample(world, 1, n, 4)[0]
                self.assertEqual(through(world, row, table),
                                 [products_sum(world, [(row[i], table[i][j]) for i in range(n)]) for j in range(m)])

    def test_great_numbers(self):
        table = [[(GREAT, GREAT_TOO), (-GREAT_TOO, GREAT)], [(1, GREAT), (GREAT_TOO, 1)]]
        table = [[told(fraction(number)) for number in row] for row in table]
        row = [told(Fraction(-7, GREAT_TOO)), told(Fraction(GREAT, 12))]
        self.assertEqual(carried(FRACTIONS, table, row), [products_sum(FRACTIONS, zip(each, row)) for each in table])
        self.assertEqual(through(FRACTIONS, row, table),
                         [products_sum(FRACTIONS, [(row[0], table[0][j]), (row[1], table[1][j])]) for j in (0, 1)])

    def test_lengths_that_do_not_fit(self):
        for world in WORLDS:
            for n, m in ((1, 1), (2, 3), (3, 2), (3, 3), (40, 39)):
                table = sample(world, n, m)
                for length in range(0, 43):
                    row = [world.of(1)] * length
                    if length != m:
                        with self.assertRaises(NoFit):
                            carried(world, table, row)
                    if length != n:
                        with self.assertRaises(NoFit):
                            through(world, row, table)

    def test_ragged_tables_do_not_fit(self):
        for table in ([[1, 2], [3]], [[1], [2, 3]]):
            for row in ([1], [1, 2]):
                with self.assertRaises(NoFit):
                    carried(SEVEN, table, row)
                with self.assertRaises(NoFit):
                    through(SEVEN, row, table)

    def test_somewhat_beyond_the_bounds_nothing_is_refused(self):
        table = [[1] * 43 for i in range(44)]
        self.assertEqual(carried(SEVEN, table, [1] * 43), [1] * 44)
        self.assertEqual(through(SEVEN, [1] * 44, table), [2] * 43)

    def test_arguments_by_name(self):
        self.assertEqual(carried(world=SEVEN, table=[[1, 2]], row=[3, 4]), [4])
        self.assertEqual(through(world=SEVEN, row=[3], table=[[1, 2]]), [3, 6])


class Products(unittest.TestCase):
    def test_by_hand(self):
        one = [[1, 2], [3, 4]]
        other = [[0, 1], [1, 0]]
        self.assertEqual(product(SEVEN, one, other), [[2, 1], [4, 3]])
        self.assertEqual(product(SEVEN, other, one), [[3, 4], [1, 2]])
        self.assertEqual(product(FRACTIONS, [[(1, 2)]], [[(4, 3), (0, 1)]]), [[(2, 3), (0, 1)]])

    def test_sums(self):
        for world in WORLDS:
            for n, m, wide in SIZES:
                one = sample(world, n, m, 2)
                other = sample(world, m, wide, 5)
                table = product(world, one, other)
                self.assertEqual(table, expected_product(world, one, other))
                self.assertIs(is_table(world, table), True)

    def test_the_second_carries_first(self):
        for world in WORLDS:
            for n, m, wide in SIZES:
                one = sample(world, n, m, 2)
                other = sample(world, m, wide, 5)
                row = sample(world, 1, wide, 6)[0]
                self.assertEqual(carried(world, product(world, one, other), row),
                                 carried(world, one, carried(world, other, row)))

    def test_forty_by_forty(self):
        for world in WORLDS:
            one = sample(world, 40, 40, 2)
            other = sample(world, 40, 40, 9)
            self.assertEqual(product(world, one, other), expected_product(world, one, other))

    def test_lengths_that_do_not_fit(self):
        for world in WORLDS:
            for n, m in ((1, 1), (2, 3), (3, 2), (40, 40), (39, 40)):
                one = sample(world, n, m)
                for k in (1, 2, 3, 39, 40):
                    if k != m:
                        for wide in (1, m, n):
                            with self.assertRaises(NoFit):
                                product(world, one, sample(world, k, wide))

    def test_ragged_tables_do_not_fit(self):
        with self.assertRaises(NoFit):
            product(SEVEN, [[1, 2], [3]], [[1], [2]])
        with self.assertRaises(NoFit):
            product(SEVEN, [[1, 2]], [[1, 2], [3]])

    def test_arguments_by_name(self):
        self.assertEqual(product(world=SEVEN, one=[[2]], other=[[3, 4]]), [[6, 1]])


class OneTables(unittest.TestCase):
    def test_ones_and_noughts(self):
        for world in WORLDS:
            for n in range(1, 41):
                right = [[world.of(1) if i == j else world.of(0) for j in range(n)] for i in range(n)]
                self.assertEqual(one_table(world, n), right)
                self.assertIs(is_table(world, one_table(world, n)), True)
        self.assertEqual(one_table(FRACTIONS, 2), [[(1, 1), (0, 1)], [(0, 1), (1, 1)]])

    def test_it_changes_nothing_in_products(self):
        for world in WORLDS:
            for n, m, other in SIZES:
                table = sample(world, n, m)
                self.assertEqual(product(world, one_table(world, n), table), table)
                self.assertEqual(product(world, table, one_table(world, m)), table)
                row = sample(world, 1, n, 2)[0]
                self.assertEqual(carried(world, one_table(world, n), row), row)
                self.assertEqual(through(world, row, one_table(world, n)), row)

    def test_somewhat_beyond_the_bounds_nothing_is_refused(self):
        self.assertEqual(len(one_table(SEVEN, 43)), 43)

    def test_arguments_by_name(self):
        self.assertEqual(one_table(world=SEVEN, n=1), [[1]])


class NothingKept(Owned, unittest.TestCase):
    def test_each_of_the_four(self):
        for world in WORLDS:
            for n, m in ((1, 1), (2, 3), (4, 4)):
                self.owned(lambda table, row: carried(world, table, row), [sample(world, n, m), sample(world, 1, m)[0]])
                self.owned(lambda row, table: through(world, row, table), [sample(world, 1, n)[0], sample(world, n, m)])
                self.owned(lambda a, b: product(world, a, b), [sample(world, n, m), sample(world, m, n)])
                self.owned(lambda a: product(world, a, one_table(world, m)), [sample(world, n, m)])
                self.owned(lambda a: product(world, one_table(world, n), a), [sample(world, n, m)])
                self.owned(lambda: one_table(world, n), [])

    def test_rows_of_one_told_table_are_apart(self):
        for table in (one_table(SEVEN, 3), product(SEVEN, [[1], [1], [1]], [[1, 2]])):
            self.assertEqual(len({id(row) for row in table}), 3)


if __name__ == "__main__":
    unittest.main()
