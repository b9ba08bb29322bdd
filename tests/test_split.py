import unittest
from itertools import combinations
from random import Random

from bandwright.errors import NoFit, NoOrder, Tied
from bandwright.plain import back_of, undone
from bandwright.ranks import rank
from bandwright.split import split, split_undone
from bandwright.tables import is_table, one_table
from oracles import (SEVEN, SMALL_WHEELS, WORLDS, Owned, all_rows, expected_carried, expected_product, noughts, part_of,
                     rank_by_parts, some_row, some_table, tables_of)
from samples import FRACTIONS, GREAT, GREAT_TOO


def parts_of(n):
    return [list(part) for many in range(1, n) for part in combinations(range(n), many)]


def no_parts(n):
    """Lists of whole numbers at which no table of n rows is split."""
    whole = list(range(n))
    lists = [[], whole, [n], [-1], [0, 0], [-1, 0], [0, n], whole + [n], [-n], [n + 1], [10 ** 299], [-10 ** 299],
             [0] * n, [-1] + whole, [0, 10 ** 299]]
    if n > 1:
        lists += [[n - 1, 0], [n - 1, n - 1], whole[::-1], whole[:-1] + [n], [n - 1, n], whole[:-1] + whole[-2:-1]]
    if n > 2:
        lists += [[0, 0, 1], [0, 1, 1], [1, 0], [0, n - 1, 1], whole[1:][::-1], whole[1:] + [1], [0, 1, 0]]
    return [each for each in lists if sorted(set(each) & set(whole)) != each or len(each) in (0, n)]


def rest_by_words(world, table, part):
    others = [place for place in range(len(table)) if place not in part]
    back = back_of(world, part_of(table, part, part))
    less = expected_product(world, part_of(table, others, part),
                            expected_product(world, back, part_of(table, part, others)))
    own = part_of(table, others, others)
    return [[world.minus(a, b) for a, b in zip(row, more)] for row, more in zip(own, less)]


def tables_with_parts(worlds, sizes, seed):
    for world in worlds:
        for n in sizes:
            random = Random(f"{world.told()} {n} {seed}")
            loose = one_table(world, n)
            loose[n - 1] = list(loose[0])
            for table in tables_of(world, n, n, seed) + [one_table(world, n), loose]:
                for part in parts_of(n):
                    yield world, table, part, some_row(world, random, n)


class Split(unittest.TestCase):
    def check_tied(self, world, table, part, ask):
        own = part_of(table, part, part)
        with self.assertRaises(Tied) as told:
            ask()
        move = told.exception.move
        self.assertEqual(len(move), len(part))
        self.assertNotEqual(move, noughts(world, len(part)))
        self.assertTrue(all(world.is_number(number) for number in move))
        self.assertEqual(expected_carried(world, own, move), noughts(world, len(part)))

    def check(self, world, table, part, aim):
        own = part_of(table, part, part)
        if rank(world, own) < len(part):
            self.check_tied(world, table, part, lambda: split(world, table, part))
            self.check_tied(world, table, part, lambda: split_undone(world, table, part, aim))
            return "tied"
        came = split(world, table, part)
        self.assertIs(type(came), tuple)
        back, rest = came
        self.assertEqual(expected_product(world, own, back), one_table(world, len(part)))
        self.assertEqual(rest, rest_by_words(world, table, part))
        self.assertIs(is_table(world, back) and is_table(world, rest), True)
        self.assertEqual(rank(world, table), len(part) + rank(world, rest))
        told = split_undone(world, table, part, aim)
        self.assertIs(type(told), tuple)
        if rank(world, table) == len(table):
            self.assertEqual(told, undone(world, table, aim))
            return "one"
        self.assertEqual((told[0], len(told), len(told[1])), ("loose", 2, len(table)))
        self.assertNotEqual(told[1], noughts(world, len(table)))
        self.assertEqual(expected_carried(world, table, told[1]), noughts(world, len(table)))
        return "loose"

    def test_by_hand(self):
        self.assertEqual(split(SEVEN, [[1, 2], [3, 4]], [0]), ([[1]], [[5]]))
        self.assertEqual(split(SEVEN, [[1, 2], [3, 4]], [1]), ([[2]], [[3]]))
        self.assertEqual(split(SEVEN, [[1, 0, 2], [0, 2, 0], [3, 0, 6]], [0, 1]), ([[1, 0], [0, 4]], [[0]]))
        self.assertEqual(split(FRACTIONS, [[(2, 1), (1, 1)], [(1, 1), (1, 1)]], [0]), ([[(1, 2)]], [[(1, 2)]]))
        self.assertEqual(split_undone(SEVEN, [[1, 2], [3, 4]], [0], [5, 4]), ("one", [1, 2]))
        self.assertEqual(split_undone(SEVEN, [[1, 2], [3, 4]], [1], [5, 4]), ("one", [1, 2]))
        came = split_undone(SEVEN, [[1, 2], [2, 4]], [0], [5, 4])
        self.assertEqual(came, ("loose", [SEVEN.times(5, came[1][1]), came[1][1]]))
        with self.assertRaises(Tied):
            split(SEVEN, [[0, 1], [1, 0]], [0])

    def test_tables_of_all_sorts(self):
        kinds = set()
        for world, table, part, aim in tables_with_parts(WORLDS, (2, 3, 4), 1):
            kinds.add((world.told(), self.check(world, table, part, aim)))
        self.assertEqual(len(kinds), 3 * len(WORLDS))

    def test_ranks(self):
        for world, table, part, aim in tables_with_parts(WORLDS, (2, 3, 4), 2):
            if rank(world, part_of(table, part, part)) == len(part):
                rest = split(world, table, part)[1]
                self.assertEqual(rank_by_parts(world, table), len(part) + rank_by_parts(world, rest))

    def test_every_table_of_the_wheel_of_two(self):
        two = SMALL_WHEELS[0]
        for n in (2, 3):
            for turn, numbers in enumerate(all_rows(2, n * n)):
                table = [numbers[start:start + n] for start in range(0, n * n, n)]
                parts = parts_of(n)
                self.check(two, table, parts[turn % len(parts)], some_row(two, Random(turn), n))

    def test_forty(self):
        for world in WORLDS:
            table = some_table(world, Random(40), 40, 40, 2)
            for i in range(40):
                table[i][i] = world.plus(table[i][i], world.of(1))
            for part in ([0], [39], list(range(39)), list(range(1, 40)), list(range(0, 40, 2)), [3, 7, 31]):
                self.check(world, table, part, some_row(world, Random(1), 40))
                self.check(world, one_table(world, 40), part, some_row(world, Random(1), 40))

    def test_three_hundred_figures(self):
        table = [[(GREAT, 1), FRACTIONS.of(1, GREAT_TOO), (1, 1)], [FRACTIONS.of(GREAT, GREAT_TOO), (1, 1), (0, 1)],
                 [(-GREAT_TOO, 1), (GREAT, 1), FRACTIONS.of(7, GREAT)]]
        aim = [(GREAT_TOO, 1), FRACTIONS.of(GREAT, 10 ** 299), (0, 1)]
        loose = table[:2] + [[FRACTIONS.times(number, (GREAT_TOO, 3)) for number in table[0]]]
        for part in parts_of(3):
            self.assertEqual(self.check(FRACTIONS, table, part, aim), "one")
            self.assertIn(self.check(FRACTIONS, loose, part, aim), ("loose", "tied"))

    def test_what_does_not_fit(self):
        for world in WORLDS:
            for n, m in ((1, 2), (2, 1), (2, 3), (3, 2), (40, 39)):
                for table in (some_table(world, Random(n), n, m), [noughts(world, m) for row in range(n)]):
                    for part in [[0], [1], [0, 1]] + no_parts(n):
                        with self.assertRaises(NoFit):
                            split(world, table, part)
                        for many in (0, n, m):
                            with self.assertRaises(NoFit):
                                split_undone(world, table, part, noughts(world, many))

    def test_aims_that_do_not_fit(self):
        for world in WORLDS:
            for n in (1, 2, 3, 5):
                for table in (one_table(world, n), [noughts(world, n) for row in range(n)]):
                    for part in parts_of(n) + no_parts(n):
                        for many in {0, n - 1, n + 1, 41} - {n}:
                            with self.assertRaises(NoFit):
                                split_undone(world, table, part, noughts(world, many))

    def test_what_is_no_part(self):
        for world in WORLDS:
            for n in (1, 2, 3, 5):
                for table in (one_table(world, n), [noughts(world, n) for row in range(n)]):
                    for part in no_parts(n):
                        with self.assertRaises(NoOrder, msg=part):
                            split(world, table, part)
                        with self.assertRaises(NoOrder, msg=part):
                            split_undone(world, table, part, noughts(world, n))

    def test_truths_are_no_places(self):
        for part in ([False], [True], [0, True], [False, 1]):
            with self.assertRaises(NoOrder):
                split(SEVEN, one_table(SEVEN, 3), part)

    def test_arguments_by_name(self):
        self.assertEqual(split(world=SEVEN, table=[[1, 2], [3, 4]], part=[0]), ([[1]], [[5]]))
        self.assertEqual(split_undone(world=SEVEN, table=[[1, 2], [3, 4]], part=[0], aim=[5, 4]), ("one", [1, 2]))


class NothingKept(Owned, unittest.TestCase):
    def moved(self, ask):
        try:
            return ask()
        except Tied as error:
            return error.move

    def test_each(self):
        for world, table, part, aim in tables_with_parts(WORLDS[:4], (2, 3), 3):
            self.owned(lambda a, b: self.moved(lambda: split(world, a, b)), [table, part])
            self.owned(lambda a, b, c: self.moved(lambda: split_undone(world, a, b, c)), [table, part, aim])


if __name__ == "__main__":
    unittest.main()
