import unittest
from copy import deepcopy
from random import Random

from bandwright.plain import back_of
from bandwright.ranks import is_rank_paper, rank, rank_paper
from bandwright.tables import one_table
from bandwright.worlds import World
from oracles import (SEVEN, WORLDS, Owned, changed, determinant, expected_product, noughts, part_of, products_sum,
                     rank_by_parts, some_table, tables_of, turned_about)
from samples import FRACTIONS, GREAT, GREAT_TOO

TWO = World(("wheel", 2))
SIZES = [(1, 1), (1, 4), (4, 1), (2, 2), (2, 4), (4, 2), (3, 3), (3, 4), (4, 3), (4, 4)]


def cases(worlds, sizes, seed=1):
    for world in worlds:
        for n, m in sizes:
            for table in tables_of(world, n, m, seed):
                yield world, table


def is_right(world, table, paper):
    """All that the document says of a rank paper, word by word."""
    left, right, rows, columns, back = paper
    n, m, r = len(table), len(table[0]), len(right)
    if [len(row) for row in left] != [r] * n or [len(row) for row in right] != [m] * r:
        return False
    if [len(row) for row in back] != [r] * r or len(rows) != r or len(columns) != r:
        return False
    if rows != sorted(set(rows)) or columns != sorted(set(columns)):
        return False
    if not set(rows) <= set(range(n)) or not set(columns) <= set(range(m)):
        return False
    for i in range(n):
        for j in range(m):
            if table[i][j] != products_sum(world, [(left[i][k], right[k][j]) for k in range(r)]):
                return False
    return r == 0 or expected_product(world, part_of(table, rows, columns), back) == one_table(world, r)


def with_part(paper, part, thing):
    parts = list(deepcopy(paper))
    parts[part] = deepcopy(thing)
    return tuple(parts)


class Ranks(unittest.TestCase):
    def test_by_hand(self):
        self.assertEqual(rank(SEVEN, [[0]]), 0)
        self.assertEqual(rank(SEVEN, [[3]]), 1)
        self.assertEqual(rank(SEVEN, [[1, 2], [2, 4]]), 1)
        self.assertEqual(rank(FRACTIONS, [[(1, 1), (2, 1)], [(3, 1), (-1, 1)]]), 2)
        self.assertEqual(rank(SEVEN, [[1, 2], [3, 6]]), 1)
        self.assertEqual(rank(World(("wheel", 5)), [[1, 2], [3, 6 % 5]]), 1)
        self.assertEqual(rank(World(("wheel", 3)), [[1, 2], [0, 1]]), 2)
        self.assertEqual(rank(SEVEN, [[0, 0, 5], [0, 0, 1], [0, 0, 0]]), 1)
        self.assertEqual(rank(FRACTIONS, [[(1, 1), (2, 1)], [(4, 1), (1, 1)]]), 2)
        self.assertEqual(rank(SEVEN, [[1, 2], [4, 1]]), 1)

    def test_against_all_parts(self):
        seen = set()
        for world, table in cases(WORLDS, SIZES):
            many = rank(world, table)
            self.assertIs(type(many), int)
            self.assertEqual(many, rank_by_parts(world, table))
            self.assertEqual(rank(world, turned_about(table)), many)
            seen.add(many)
        self.assertEqual(seen, {0, 1, 2, 3, 4})

    def test_every_small_table_of_the_wheel_of_two(self):
        for n, m in ((1, 1), (1, 3), (3, 1), (2, 2), (2, 3), (3, 3)):
            for mask in range(2 ** (n * m)):
                table = [[mask >> (i * m + j) & 1 for j in range(m)] for i in range(n)]
                self.assertEqual(rank(TWO, table), rank_by_parts(TWO, table))

    def test_forty_rows(self):
        for world in WORLDS:
            for n, m, many in ((40, 40, 17), (40, 3, 2), (5, 40, 5), (40, 40, 40)):
                left = [[world.of(int(k == i)) if i < many else number for k, number in enumerate(row)]
                        for i, row in enumerate(some_table(world, Random(n), n, many))]
                right = turned_about([[world.of(int(k == i)) if i < many else number for k, number in enumerate(row)]
                                      for i, row in enumerate(some_table(world, Random(m), m, many))])
                table = expected_product(world, left, right)
                self.assertEqual(rank(world, table), many)
                paper = rank_paper(world, table)
                self.assertEqual(len(paper[1]), many)
                self.assertIs(is_rank_paper(world, table, paper), True)

    def test_three_hundred_figures(self):
        table = [[(GREAT, 1), FRACTIONS.of(1, GREAT_TOO), (1, 1)], [FRACTIONS.of(GREAT, GREAT_TOO), (1, 1), (0, 1)]]
        self.assertEqual(rank(FRACTIONS, table), 2)
        table.append([FRACTIONS.plus(FRACTIONS.times((GREAT_TOO, 7), a), b) for a, b in zip(*table)])
        self.assertEqual(rank(FRACTIONS, table), 2)
        self.assertIs(is_rank_paper(FRACTIONS, table, rank_paper(FRACTIONS, table)), True)
        table[2] = changed(FRACTIONS, table[2], 1)
        self.assertEqual(rank(FRACTIONS, table), 3)
        self.assertIs(is_rank_paper(FRACTIONS, table, rank_paper(FRACTIONS, table)), True)

    def test_arguments_by_name(self):
        self.assertEqual(rank(world=SEVEN, table=[[2]]), 1)


class RankPapers(unittest.TestCase):
    def check_part(self, world, rows, n, m):
        self.assertIs(type(rows), list)
        self.assertEqual(len(rows), n)
        for row in rows:
            self.assertIs(type(row), list)
            self.assertEqual(len(row), m)
            self.assertTrue(all(world.is_number(number) for number in row))

    def test_each_part(self):
        for world, table in cases(WORLDS, SIZES, 2):
            paper = rank_paper(world, table)
            self.assertIs(type(paper), tuple)
            left, right, rows, columns, back = paper
            many = rank_by_parts(world, table)
            self.check_part(world, left, len(table), many)
            self.check_part(world, right, many, len(table[0]))
            self.check_part(world, back, many, many)
            for places, bound in ((rows, len(table)), (columns, len(table[0]))):
                self.assertIs(type(places), list)
                self.assertTrue(all(type(place) is int and 0 <= place < bound for place in places))
                self.assertEqual(len(places), many)
                self.assertEqual(places, sorted(set(places)))
            if many > 0:
                self.assertEqual(expected_product(world, left, right), table)
                self.assertEqual(expected_product(world, part_of(table, rows, columns), back), one_table(world, many))
            self.assertTrue(is_right(world, table, paper))

    def test_of_noughts(self):
        for world in WORLDS:
            for n, m in ((1, 1), (3, 1), (1, 3), (2, 3)):
                table = [noughts(world, m) for row in range(n)]
                self.assertEqual(rank_paper(world, table), ([[] for row in range(n)], [], [], [], []))

    def test_arguments_by_name(self):
        paper = rank_paper(world=SEVEN, table=[[2]])
        self.assertEqual((paper[2], paper[3], paper[4]), ([0], [0], [[4]]))
        self.assertIs(is_rank_paper(world=SEVEN, table=[[2]], paper=paper), True)


class IsRankPaper(unittest.TestCase):
    def agrees(self, world, table, paper):
        self.assertIs(is_rank_paper(world, table, paper), is_right(world, table, paper), paper)

    def refused(self, world, table, paper):
        self.assertIs(is_rank_paper(world, table, paper), False, paper)
        self.assertFalse(is_right(world, table, paper))

    def test_told_ones(self):
        for world, table in cases(WORLDS, SIZES, 3):
            self.assertIs(is_rank_paper(world, table, rank_paper(world, table)), True)

    def test_other_right_ones(self):
        for world, table in cases(WORLDS, [(2, 2), (3, 3), (3, 4), (4, 2)], 4):
            left, right, rows, columns, back = rank_paper(world, table)
            if not right:
                continue
            r = len(right)
            twist = [[world.of(int(i == j) + int(j == i + 1)) for j in range(r)] for i in range(r)]
            other = (expected_product(world, left, twist), expected_product(world, back_of(world, twist), right),
                     rows, columns, back)
            self.assertIs(is_rank_paper(world, table, other), True)
            if r == 1:
                for i in range(len(table)):
                    for j in range(len(table[0])):
                        if table[i][j] != world.of(0):
                            other = (left, right, [i], [j], [[world.over(world.of(1), table[i][j])]])
                            self.assertIs(is_rank_paper(world, table, other), True)

    def test_a_number_changed(self):
        for world, table in cases(WORLDS, SIZES, 5):
            paper = rank_paper(world, table)
            for part in (0, 1, 4):
                for i, row in enumerate(paper[part]):
                    for j in range(len(row)):
                        rows = deepcopy(paper[part])
                        rows[i] = changed(world, row, j)
                        self.refused(world, table, with_part(paper, part, rows))
            for i, row in enumerate(table):
                for j in range(len(row)):
                    other = deepcopy(table)
                    other[i] = changed(world, row, j)
                    self.refused(world, other, paper)

    def test_parts_that_are_longer_or_shorter(self):
        for world, table in cases(WORLDS, SIZES, 6):
            paper = rank_paper(world, table)
            for part in (0, 1, 4):
                rows = paper[part]
                one = world.of(1)
                others = [rows + [[]], rows + [[one]], rows + rows[:1], [row + [world.of(0)] for row in rows],
                          [row + [one] for row in rows], rows[:-1], [row[:-1] for row in rows], [], [[]],
                          rows + [noughts(world, len(table[0]))], [noughts(world, len(table[0]))] + rows,
                          rows[:-1] + [rows[-1][:-1] if rows else []], rows[:-1] + [rows[-1] + [one] if rows else []],
                          [[one] * 45 for row in range(45)]]
                for other in others:
                    if other != rows:
                        self.refused(world, table, with_part(paper, part, other))
            for part in (2, 3):
                for other in (paper[part] + [0], paper[part][:-1], paper[part][1:], [], [0], [0] + paper[part],
                              paper[part] * 2, list(range(45))):
                    if len(other) != len(paper[part]):
                        self.refused(world, table, with_part(paper, part, other))

    def test_all_parts_longer_at_once(self):
        for world, table in cases(WORLDS, SIZES, 7):
            left, right, rows, columns, back = rank_paper(world, table)
            nought, one = world.of(0), world.of(1)
            longer = ([row + [nought] for row in left], right + [noughts(world, len(table[0]))])
            more_back = [row + [nought] for row in back] + [noughts(world, len(back)) + [one]]
            for more_rows in (rows + [len(table)], rows + [len(table) - 1], [-1] + rows):
                for more_columns in (columns + [len(table[0])], columns + [len(table[0]) - 1], [-1] + columns):
                    self.refused(world, table, longer + (more_rows, more_columns, more_back))

    def test_rows_and_columns_changed(self):
        for world, table in cases(WORLDS, SIZES, 8):
            paper = rank_paper(world, table)
            for part, bound in ((2, len(table)), (3, len(table[0]))):
                places = paper[part]
                for at in range(len(places)):
                    for place in [*range(-bound - 2, bound + 3), GREAT, -GREAT]:
                        other = places[:at] + [place] + places[at + 1:]
                        self.agrees(world, table, with_part(paper, part, other))
                        if not 0 <= place < bound or len(set(other)) < len(other):
                            self.refused(world, table, with_part(paper, part, other))

    def test_out_of_order(self):
        seen = 0
        for world, table in cases(WORLDS, [(2, 2), (3, 3), (4, 4)], 9):
            left, right, rows, columns, back = rank_paper(world, table)
            if len(rows) < 2:
                continue
            seen += 1
            turned_rows = (left, right, rows[::-1], columns, [row[::-1] for row in back])
            turned_columns = (left, right, rows, columns[::-1], back[::-1])
            for paper in (turned_rows, turned_columns):
                self.assertEqual(expected_product(world, part_of(table, paper[2], paper[3]), paper[4]),
                                 one_table(world, len(rows)))
                self.refused(world, table, paper)
        self.assertGreater(seen, 20)

    def test_a_paper_of_too_great_a_rank(self):
        for world in WORLDS:
            table = [[world.of(1), world.of(1)], [world.of(1), world.of(1)]]
            paper = (table, one_table(world, 2), [0, 1], [0, 1], one_table(world, 2))
            self.refused(world, table, paper)
            self.refused(world, table, (one_table(world, 2), table, [0, 1], [0, 1], table))

    def test_of_noughts(self):
        for world in WORLDS:
            empty = ([[], []], [], [], [], [])
            self.assertIs(is_rank_paper(world, [noughts(world, 3)] * 2, empty), True)
            for i in range(2):
                for j in range(3):
                    table = [noughts(world, 3), noughts(world, 3)]
                    table[i] = changed(world, table[i], j)
                    self.assertIs(is_rank_paper(world, table, empty), False)
            for part, other in ((0, [[]]), (0, []), (0, [[], [], []]), (1, [[]]), (2, [0]), (3, [0]), (4, [[]]),
                                (0, [[world.of(0)], [world.of(0)]]), (1, [noughts(world, 3)])):
                self.assertIs(is_rank_paper(world, [noughts(world, 3)] * 2, with_part(empty, part, other)), False)

    def test_the_back_stands_on_either_side(self):
        for world, table in cases(WORLDS, [(3, 3), (4, 4)], 10):
            left, right, rows, columns, back = rank_paper(world, table)
            if rows:
                inner = part_of(table, rows, columns)
                self.assertNotEqual(determinant(world, inner), world.of(0))
                self.agrees(world, table, (left, right, rows, columns, turned_about(back)))


class NothingKept(Owned, unittest.TestCase):
    def test_each(self):
        for world, table in cases(WORLDS[:4], [(1, 1), (2, 3), (3, 2), (3, 3)], 11):
            self.owned(lambda a: rank(world, a), [table])
            self.owned(lambda a: rank_paper(world, a), [table])
            self.owned(lambda a, b: is_rank_paper(world, a, b), [table, rank_paper(world, table)])


if __name__ == "__main__":
    unittest.main()
