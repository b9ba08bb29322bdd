import unittest
from itertools import product
from random import Random

from bandwright.errors import NoFit
from bandwright.plain import back_of, undone
from bandwright.polys import common, parted
from bandwright.ranks import rank
from bandwright.tables import is_table, one_table
from bandwright.turned import turned_back, turned_table, turned_undone
from bandwright.worlds import World
from oracles import (SEVEN, WORLDS, Owned, all_rows, expected_carried, expected_product, noughts, ones_at,
                     rank_by_parts, some_row)
from samples import FRACTIONS, GREAT, GREAT_TOO

TWO = World(("wheel", 2))
THREE = World(("wheel", 3))
FIVE = World(("wheel", 5))


def table_by_words(row):
    n = len(row)
    return [[row[(i - j) % n] for j in range(n)] for i in range(n)]


def turn_of(world, n):
    return [world.of(-1)] + noughts(world, n - 1) + [world.of(1)]


def rows_of(world, n, seed):
    """Rows of n numbers: of all sorts, of noughts, with noughts, all alike, that come to nought put together, ones alone."""
    random = Random(f"{world.told()} {n} {seed}")
    row = some_row(world, random, n)
    steps = [world.minus(row[place], row[place - 1]) for place in range(n)]
    signs = [world.of((-1) ** place) for place in range(n)]
    halves = (row[:(n + 1) // 2] * 2)[:n]
    return [row, [number if random.random() < 0.5 else world.of(0) for number in row], noughts(world, n),
            [world.of(1)] * n, steps, signs, halves, ones_at(world, n, 0), ones_at(world, n, n - 1),
            ones_at(world, n, n // 2)]


def no_rows(world):
    return [[world.of(1)] * many for many in (0, 41, 42, 80, 100)]


class Turned(unittest.TestCase):
    def check(self, world, row, aim):
        n = len(row)
        table = table_by_words(row)
        came = turned_undone(world, row, aim)
        self.assertIs(type(came), tuple)
        plain = undone(world, table, aim)
        back = turned_back(world, row)
        if plain[0] == "one":
            self.assertEqual(came, plain)
            self.assertEqual(len(back), n)
            self.assertEqual(table_by_words(back), back_of(world, table))
            self.assertEqual(expected_product(world, table_by_words(back), table), one_table(world, n))
        else:
            self.assertIs(back, None)
            self.check_loose(world, row, came)
        return came[0]

    def check_loose(self, world, row, came):
        n = len(row)
        self.assertEqual((came[0], len(came)), ("loose", 3))
        factor, move = came[1:]
        self.assertEqual(factor, common(world, row, turn_of(world, n))[0])
        self.assertGreater(len(factor), 1)
        self.assertEqual(factor[-1], world.of(1))
        self.assertEqual(parted(world, row, factor)[1], [])
        by, left = parted(world, turn_of(world, n), factor)
        self.assertEqual(left, [])
        self.assertEqual(move, by + noughts(world, n - len(by)))
        self.assertEqual(len(move), n)
        self.assertNotEqual(move, noughts(world, n))
        self.assertEqual(expected_carried(world, table_by_words(row), move), noughts(world, n))
        self.assertEqual(rank(world, table_by_words(row)), n - (len(factor) - 1))

    def test_tables(self):
        self.assertEqual(turned_table(SEVEN, [1, 2, 3]), [[1, 3, 2], [2, 1, 3], [3, 2, 1]])
        self.assertEqual(turned_table(SEVEN, [6]), [[6]])
        for world in WORLDS:
            for n in (1, 2, 3, 7, 39, 40):
                for row in rows_of(world, n, 1)[:3]:
                    came = turned_table(world, row)
                    self.assertEqual(came, table_by_words(row))
                    self.assertIs(is_table(world, came), True)

    def test_by_hand(self):
        self.assertEqual(turned_undone(SEVEN, [2], [1]), ("one", [4]))
        self.assertEqual(turned_undone(SEVEN, [0], [1]), ("loose", [6, 1], [1]))
        self.assertEqual(turned_undone(SEVEN, [0, 1], [5, 4]), ("one", [4, 5]))
        self.assertEqual(turned_undone(SEVEN, [0, 1, 0], [5, 4, 3]), ("one", [4, 3, 5]))
        self.assertEqual(turned_undone(SEVEN, [1, 1], [5, 4]), ("loose", [1, 1], [6, 1]))
        self.assertEqual(turned_undone(SEVEN, [0, 0, 0], [5, 4, 1]), ("loose", [6, 0, 0, 1], [1, 0, 0]))
        self.assertEqual(turned_undone(TWO, [1, 0, 1, 0], [1, 0, 0, 0]), ("loose", [1, 0, 1], [1, 0, 1, 0]))
        self.assertEqual(turned_undone(FRACTIONS, [(2, 1), (-2, 1)], [(0, 1), (1, 1)]),
                         ("loose", [(-1, 1), (1, 1)], [(1, 1), (1, 1)]))
        self.assertEqual(turned_undone(FRACTIONS, [(2, 1), (1, 1)], [(3, 1), (0, 1)]), ("one", [(2, 1), (-1, 1)]))
        self.assertEqual(turned_back(FRACTIONS, [(2, 1), (1, 1)]), [(2, 3), (-1, 3)])
        self.assertEqual(turned_back(SEVEN, [0, 1, 0]), [0, 0, 1])
        self.assertEqual(turned_back(SEVEN, [3]), [5])
        self.assertIs(turned_back(SEVEN, [0]), None)
        self.assertIs(turned_back(SEVEN, [1, 1]), None)

    def test_rows_of_all_sorts(self):
        kinds = set()
        for world in WORLDS:
            for n in (1, 2, 3, 4, 5, 6, 7, 10):
                for seed in (1, 2):
                    for row in rows_of(world, n, seed):
                        kinds.add((world.told(), self.check(world, row, some_row(world, Random(f"{n} {seed}"), n))))
        self.assertEqual(len(kinds), 2 * len(WORLDS))

    def test_every_row_of_small_wheels(self):
        for world, most in ((TWO, 7), (THREE, 4), (FIVE, 3)):
            for n in range(1, most + 1):
                for turn, row in enumerate(all_rows(world.told()[1], n)):
                    self.check(world, row, some_row(world, Random(turn), n))

    def test_rows_as_long_as_the_prime_or_some_times_that(self):
        for world, sizes in ((TWO, (2, 4, 8, 16, 32, 40)), (THREE, (3, 9, 27, 39)), (FIVE, (5, 25, 40)), (SEVEN, (7, 35))):
            for n in sizes:
                for row in rows_of(world, n, 3):
                    self.check(world, row, some_row(world, Random(n), n))

    def test_ranks(self):
        for world, n in product(WORLDS, (1, 2, 3, 4)):
            for row in rows_of(world, n, 4):
                lacks = len(common(world, row, turn_of(world, n))[0]) - 1
                self.assertEqual(rank_by_parts(world, table_by_words(row)), n - lacks)

    def test_moves_make_the_whole_of_what_is_carried_to_noughts(self):
        for world in (TWO, THREE):
            for n in (2, 3, 4):
                for row in all_rows(world.told()[1], n):
                    came = turned_undone(world, row, noughts(world, n))
                    if came[0] == "loose":
                        lost = [each for each in all_rows(world.told()[1], n)
                                if not any(expected_carried(world, table_by_words(row), each))]
                        self.assertEqual(len(lost), world.told()[1] ** (len(came[1]) - 1))
                        self.assertIn(came[2], lost)

    def test_forty(self):
        for world in WORLDS:
            for row in rows_of(world, 40, 5)[:None if world.told() != ("fractions",) else 6]:
                self.check(world, row, some_row(world, Random(40), 40))

    def test_three_hundred_figures(self):
        numbers = [(GREAT, 1), FRACTIONS.of(1, GREAT_TOO), (-GREAT_TOO, 1), FRACTIONS.of(GREAT, GREAT_TOO), (3, 7)]
        less = [FRACTIONS.minus(numbers[place], numbers[place - 1]) for place in range(5)]
        for row in (numbers, numbers[:1], numbers[:2], numbers[:3], numbers[1:], less, [numbers[3]] * 4):
            self.check(FRACTIONS, row, numbers[::-1][:len(row)])
        self.assertEqual(turned_undone(FRACTIONS, less, noughts(FRACTIONS, 5))[1], [(-1, 1), (1, 1)])

    def test_rows_that_tell_no_table(self):
        for world in WORLDS:
            for row in no_rows(world):
                with self.assertRaises(NoFit):
                    turned_table(world, row)
                with self.assertRaises(NoFit):
                    turned_back(world, row)
                for many in (0, 1, 40, 41, len(row), len(row) + 1):
                    with self.assertRaises(NoFit):
                        turned_undone(world, row, noughts(world, many))
                for thing in (None, 7, "aim", (), {}):
                    with self.assertRaises(NoFit):
                        turned_undone(world, row, thing)

    def test_aims_that_do_not_fit(self):
        for world in WORLDS:
            for n in (1, 2, 3, 40):
                for row in rows_of(world, n, 6):
                    for many in {0, 1, n - 1, n + 1, 2 * n, 41} - {n}:
                        with self.assertRaises(NoFit):
                            turned_undone(world, row, noughts(world, many))

    def test_arguments_by_name(self):
        self.assertEqual(turned_table(world=SEVEN, row=[3]), [[3]])
        self.assertEqual(turned_undone(world=SEVEN, row=[2], aim=[1]), ("one", [4]))
        self.assertEqual(turned_back(world=SEVEN, row=[2]), [4])


class NothingKept(Owned, unittest.TestCase):
    def test_each(self):
        for world in WORLDS[:4]:
            for n in (1, 2, 4):
                for row in rows_of(world, n, 7):
                    self.owned(lambda a: turned_table(world, a), [row])
                    self.owned(lambda a: turned_back(world, a), [row])
                    self.owned(lambda a, b: turned_undone(world, a, b), [row, some_row(world, Random(n), n)])


if __name__ == "__main__":
    unittest.main()
