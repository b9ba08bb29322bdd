import unittest
from random import Random

from bandwright.errors import NoFit
from bandwright.plain import undone
from bandwright.ranks import rank
from bandwright.tables import is_table, one_table
from bandwright.twofold import twofold, twofold_undone
from oracles import (SEVEN, SMALL_WHEELS, WORLDS, Owned, all_rows, determinant, expected_carried, noughts, rank_by_parts,
                     some_row, some_table, tables_of)
from samples import FRACTIONS, GREAT, GREAT_TOO

SIZES = ((1, 1), (1, 2), (2, 1), (2, 2), (2, 3), (3, 2), (3, 3), (1, 4))


def by_words(world, one, other):
    k, l = len(other), len(other[0])
    return [[world.times(one[row // k][column // l], other[row % k][column % l]) for column in range(len(one[0]) * l)]
            for row in range(len(one) * k)]


def can_be_undone(world, table):
    return rank(world, table) == len(table)


class Twofold(unittest.TestCase):
    def test_by_hand(self):
        self.assertEqual(twofold(SEVEN, [[2]], [[3]]), [[6]])
        self.assertEqual(twofold(SEVEN, [[1, 2]], [[1, 3], [0, 4]]), [[1, 3, 2, 6], [0, 4, 0, 1]])
        self.assertEqual(twofold(SEVEN, [[1], [2]], [[1, 3]]), [[1, 3], [2, 6]])
        self.assertEqual(twofold(SEVEN, [[1, 3]], [[1], [2]]), [[1, 3], [2, 6]])
        self.assertEqual(twofold(SEVEN, [[0, 1], [1, 0]], [[1, 2], [3, 4]]),
                         [[0, 0, 1, 2], [0, 0, 3, 4], [1, 2, 0, 0], [3, 4, 0, 0]])
        self.assertEqual(twofold(FRACTIONS, [[(1, 2), (-1, 1)]], [[(2, 3)]]), [[(1, 3), (-2, 3)]])

    def test_entries(self):
        for world in WORLDS:
            for n, m in SIZES:
                for k, l in SIZES:
                    one = some_table(world, Random(f"{n} {m}"), n, m)
                    other = some_table(world, Random(f"{k} {l} 2"), k, l)
                    came = twofold(world, one, other)
                    self.assertEqual(came, by_words(world, one, other))
                    self.assertIs(is_table(world, came), True)
                    for i in range(n):
                        for j in range(m):
                            for p in range(k):
                                for q in range(l):
                                    self.assertEqual(came[i * k + p][j * l + q], world.times(one[i][j], other[p][q]))

    def test_ranks(self):
        for world in WORLDS:
            for n, m in SIZES:
                for one in tables_of(world, n, m, 1):
                    for other in tables_of(world, m, 2, 2)[1:5]:
                        whole = twofold(world, one, other)
                        self.assertEqual(rank(world, whole), rank_by_parts(world, one) * rank_by_parts(world, other))

    def test_up_to_forty_rows_and_columns(self):
        for world in WORLDS:
            for one, other in (((40, 1), (1, 40)), ((5, 8), (8, 5)), ((40, 40), (1, 1)), ((1, 1), (40, 40)), ((6, 6), (6, 6)),
                               ((20, 13), (2, 3))):
                first, second = some_table(world, Random(1), *one), some_table(world, Random(2), *other)
                self.assertEqual(twofold(world, first, second), by_words(world, first, second))

    def test_more_than_forty_rows_or_columns(self):
        for world in WORLDS:
            for one, other in (((41, 1), (1, 1)), ((1, 1), (1, 41)), ((1, 41), (1, 1)), ((1, 1), (41, 1)), ((40, 1), (2, 1)),
                               ((1, 2), (1, 40)), ((7, 1), (6, 1)), ((1, 6), (1, 7)), ((21, 2), (2, 2)), ((2, 3), (2, 14)),
                               ((40, 40), (40, 40)), ((7, 7), (6, 6)), ((41, 41), (1, 1)), ((1, 1), (41, 41))):
                first, second = some_table(world, Random(1), *one), some_table(world, Random(2), *other)
                with self.assertRaises(NoFit):
                    twofold(world, first, second)
                for many in (0, 1, 40, one[0] * other[0]):
                    with self.assertRaises(NoFit):
                        twofold_undone(world, first, second, noughts(world, many))

    def test_arguments_by_name(self):
        self.assertEqual(twofold(world=SEVEN, one=[[2]], other=[[3]]), [[6]])
        self.assertEqual(twofold_undone(world=SEVEN, one=[[2]], other=[[4]], aim=[3]), ("one", [3]))


class Undone(unittest.TestCase):
    def check(self, world, one, other, aim):
        whole = by_words(world, one, other)
        came = twofold_undone(world, one, other, aim)
        self.assertIs(type(came), tuple)
        self.assertIs(type(came[-1]), list)
        loose = [which for which, table in enumerate((one, other)) if not can_be_undone(world, table)]
        if not loose:
            self.assertEqual(came, undone(world, whole, aim))
            self.assertEqual(came[0], "one")
            self.assertEqual(expected_carried(world, whole, came[1]), aim)
            return "one"
        self.assertEqual((came[:2], len(came)), (("loose", loose[0]), 3))
        self.assertEqual(len(came[2]), len(whole))
        self.assertNotEqual(came[2], noughts(world, len(whole)))
        self.assertTrue(all(world.is_number(number) for number in came[2]))
        self.assertEqual(expected_carried(world, whole, came[2]), noughts(world, len(whole)))
        return tuple(loose)

    def test_by_hand(self):
        self.assertEqual(twofold_undone(SEVEN, [[2]], [[3]], [5]), ("one", [2]))
        self.assertEqual(twofold_undone(SEVEN, [[0, 1], [1, 0]], [[1, 1], [0, 1]], [1, 2, 3, 4]), ("one", [6, 4, 6, 2]))
        self.assertEqual(twofold_undone(SEVEN, [[1, 1], [0, 1]], [[0, 1], [1, 0]], [1, 2, 3, 4]), ("one", [5, 5, 4, 3]))
        self.assertEqual(twofold_undone(SEVEN, [[0]], [[3]], [5])[:2], ("loose", 0))
        self.assertEqual(twofold_undone(SEVEN, [[3]], [[0]], [5])[:2], ("loose", 1))
        self.assertEqual(twofold_undone(SEVEN, [[0]], [[0]], [5])[:2], ("loose", 0))

    def test_tables_of_all_sorts(self):
        for world in WORLDS:
            kinds = set()
            for n in (1, 2, 3):
                for k in (1, 2, 3):
                    for seed in (1, 2):
                        ones = tables_of(world, n, n, seed) + [one_table(world, n)]
                        others = tables_of(world, k, k, seed + 2) + [one_table(world, k)]
                        for one in ones:
                            for other in others:
                                kinds.add(self.check(world, one, other, some_row(world, Random(f"{n} {k}"), n * k)))
            self.assertEqual(kinds, {"one", (0,), (1,), (0, 1)})

    def test_all_tables_of_the_wheel_of_two(self):
        two = SMALL_WHEELS[0]
        tables = [[row[:2], row[2:]] for row in all_rows(2, 4)]
        for turn, one in enumerate(tables):
            for other in tables:
                self.check(two, one, other, all_rows(2, 4)[turn])
                loose = [determinant(two, table) == 0 for table in (one, other)]
                self.assertEqual(twofold_undone(two, one, other, [1, 0, 0, 1])[0], "loose" if any(loose) else "one")

    def test_forty(self):
        for world in WORLDS:
            for n, k in ((40, 1), (1, 40), (5, 8), (20, 2), (13, 3)):
                self.check(world, some_table(world, Random(n), n, n), some_table(world, Random(k), k, k),
                           some_row(world, Random(7), n * k))

    def test_three_hundred_figures(self):
        one = [[(GREAT, 1), FRACTIONS.of(1, GREAT_TOO)], [(-GREAT_TOO, 1), FRACTIONS.of(GREAT, GREAT_TOO)]]
        other = [[(3, 7), (GREAT_TOO, 1)], [FRACTIONS.of(GREAT_TOO, GREAT), (GREAT, 1)]]
        aim = one[0] + other[1]
        self.check(FRACTIONS, one, other, aim)
        self.check(FRACTIONS, other, one, aim)
        self.check(FRACTIONS, [other[0], other[0]], one, aim)
        self.check(FRACTIONS, one, [one[0], [FRACTIONS.times(number, (GREAT, 5)) for number in one[0]]], aim)

    def test_tables_that_are_not_square(self):
        for world in WORLDS:
            for n, m in ((1, 2), (2, 1), (2, 3), (3, 2), (4, 1), (1, 4), (40, 39)):
                flat = some_table(world, Random(1), n, m)
                for k in (1, 2, 3):
                    square = one_table(world, k)
                    turned = some_table(world, Random(1), m, n)
                    for one, other in ((flat, square), (square, flat), (flat, flat), (flat, turned), (turned, flat)):
                        for many in {0, n * k, m * k, n * n, m * m, n * m}:
                            with self.assertRaises(NoFit):
                                twofold_undone(world, one, other, noughts(world, many))

    def test_aims_that_do_not_fit(self):
        for world in WORLDS:
            for n, k in ((1, 1), (1, 2), (2, 3), (5, 8)):
                for one in (one_table(world, n), [noughts(world, n) for row in range(n)]):
                    for other in (one_table(world, k), [noughts(world, k) for row in range(k)]):
                        for many in {0, n, k, n + k, n * k - 1, n * k + 1, 41} - {n * k}:
                            with self.assertRaises(NoFit):
                                twofold_undone(world, one, other, noughts(world, many))


class NothingKept(Owned, unittest.TestCase):
    def test_each(self):
        for world in WORLDS[:4]:
            for n, k in ((1, 2), (2, 2), (3, 1)):
                for one in tables_of(world, n, n, 5):
                    for other in tables_of(world, k, k, 6)[::2]:
                        self.owned(lambda a, b: twofold(world, a, b), [one, other])
                        self.owned(lambda a, b, c: twofold_undone(world, a, b, c),
                                   [one, other, some_row(world, Random(n), n * k)])

    def test_of_one_table_handed_in_twice(self):
        for world in WORLDS[:4]:
            for table in tables_of(world, 2, 2, 7):
                self.owned(lambda a: twofold(world, a, a), [table])
                self.owned(lambda a, b: twofold_undone(world, a, a, b), [table, noughts(world, 4)])


if __name__ == "__main__":
    unittest.main()
