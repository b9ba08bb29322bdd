import unittest
from itertools import product
from random import Random

from bandwright.along import along
from bandwright.errors import NoFit
from bandwright.plain import undone
from bandwright.shifted import grown, growth, shifted_table, shifted_undone
from bandwright.tables import is_table
from bandwright.worlds import World
from oracles import (SEVEN, WORLDS, Owned, all_rows, determinant, expected_carried, noughts, ones_at, part_of, some_row,
                     tied)
from samples import FRACTIONS, GREAT, GREAT_TOO

TWO = World(("wheel", 2))
THREE = World(("wheel", 3))


def table_by_words(row):
    n = (len(row) + 1) // 2
    return [[row[n - 1 + i - j] for j in range(n)] for i in range(n)]


def rows_of(world, n, seed):
    """Rows of shifted tables of n rows: of all sorts, of noughts, with noughts, of few numbers, that stop early or late."""
    random = Random(f"{world.told()} {n} {seed}")
    row = some_row(world, random, 2 * n - 1)
    even = some_row(world, random, n)
    rows = [row, [number if random.random() < 0.5 else world.of(0) for number in row], noughts(world, 2 * n - 1),
            [world.of(1)] * (2 * n - 1), some_row(world, random, 2 * n - 1, 1), even[::-1] + even[1:],
            noughts(world, n - 1) + even, even + noughts(world, n - 1)]
    return rows + [row[:n - 1] + [world.of(0)] + row[n:]]


def with_a_stop(world, n, k, seed):
    """A row whose table is tied at its first k places, and not sooner, or None where that isn't found."""
    random = Random(f"{world.told()} {n} {k} {seed}")
    for turn in range(400):
        row = some_row(world, random, 2 * n - 1, 2)
        if tied(world, part_of(table_by_words(row), range(k), range(k)), list(range(k))) == k:
            return row
    return None


def no_rows(world):
    """Rows that tell no shifted table."""
    return [[world.of(1)] * many for many in (0, 2, 4, 6, 40, 78, 80, 81, 82, 83, 121, 160)]


class Shifted(unittest.TestCase):
    def check(self, world, row, aim):
        n = (len(row) + 1) // 2
        table = table_by_words(row)
        came = shifted_undone(world, row, aim)
        right = along(world, table, list(range(n)), aim)
        self.assertEqual(came, right[:2] if right[0] == "one" else right)
        self.assertIs(type(came), tuple)
        self.assertTrue(all(world.is_number(number) for number in came[-1]))
        if came[0] == "one":
            self.assertEqual(expected_carried(world, table, came[1]), aim)
            self.assertEqual(came, undone(world, table, aim))
        else:
            k, move = came[1], came[2]
            self.assertEqual((len(move), move[k - 1]), (n, world.of(1)))
            self.assertEqual(move[k:], noughts(world, n - k))
            self.assertEqual(expected_carried(world, table, move)[:k], noughts(world, k))
        self.check_growth(world, row, n if came[0] == "one" else came[1] - 1)
        return came[0]

    def check_growth(self, world, row, many):
        table = table_by_words(row)
        pairs = growth(world, row)
        self.assertIs(type(pairs), list)
        self.assertEqual(len(pairs), many)
        for k, pair in enumerate(pairs, 1):
            self.assertIs(type(pair), tuple)
            front, back = pair
            part = part_of(table, range(k), range(k))
            self.assertEqual((len(front), len(back)), (k, k))
            self.assertEqual(expected_carried(world, part, front), ones_at(world, k, 0))
            self.assertEqual(expected_carried(world, part, back), ones_at(world, k, k - 1))
            self.assertTrue(all(world.is_number(number) for number in front + back))
            if k < len(table):
                self.assertEqual(grown(world, row, front, back), pairs[k] if k < many else None)

    def test_tables(self):
        self.assertEqual(shifted_table(SEVEN, [1, 2, 3, 4, 5]), [[3, 2, 1], [4, 3, 2], [5, 4, 3]])
        self.assertEqual(shifted_table(SEVEN, [6]), [[6]])
        for world in WORLDS:
            for n in (1, 2, 3, 7, 39, 40):
                for row in rows_of(world, n, 1)[:3]:
                    came = shifted_table(world, row)
                    self.assertEqual(came, table_by_words(row))
                    self.assertIs(is_table(world, came), True)

    def test_by_hand(self):
        self.assertEqual(shifted_undone(SEVEN, [2], [1]), ("one", [4]))
        self.assertEqual(shifted_undone(SEVEN, [0], [1]), ("stops", 1, [1]))
        self.assertEqual(shifted_undone(SEVEN, [0, 1, 3], [5, 4]), ("one", [5, 3]))
        self.assertEqual(shifted_undone(SEVEN, [1, 0, 1], [5, 4]), ("stops", 1, [1, 0]))
        self.assertEqual(shifted_undone(SEVEN, [1, 2, 4], [5, 4]), ("stops", 2, [3, 1]))
        self.assertEqual(shifted_undone(FRACTIONS, [(1, 1), (2, 1), (4, 1)], [(0, 1), (0, 1)]), ("stops", 2, [(-1, 2), (1, 1)]))
        self.assertEqual(growth(SEVEN, [0]), [])
        self.assertEqual(growth(SEVEN, [2]), [([4], [4])])
        self.assertEqual(growth(SEVEN, [1, 2, 4]), [([4], [4])])
        self.assertEqual(growth(FRACTIONS, [(1, 2), (2, 1), (0, 1)]), [([(1, 2)], [(1, 2)]),
                                                                      ([(1, 2), (0, 1)], [(-1, 8), (1, 2)])])
        self.assertEqual(grown(FRACTIONS, [(1, 2), (2, 1), (0, 1)], [(1, 2)], [(1, 2)]), ([(1, 2), (0, 1)], [(-1, 8), (1, 2)]))
        self.assertIs(grown(SEVEN, [1, 2, 4], [4], [4]), None)

    def test_rows_of_all_sorts(self):
        kinds = set()
        for world in WORLDS:
            for n in (1, 2, 3, 4, 5, 6):
                for seed in (1, 2, 3):
                    for row in rows_of(world, n, seed):
                        aim = some_row(world, Random(f"{n} {seed}"), n)
                        kinds.add((world.told(), self.check(world, row, aim)))
        self.assertEqual(len(kinds), 2 * len(WORLDS))

    def test_every_row_of_small_wheels(self):
        for world, sizes in ((TWO, (1, 2, 3, 4)), (THREE, (1, 2, 3))):
            for n in sizes:
                for turn, row in enumerate(all_rows(world.told()[1], 2 * n - 1)):
                    self.check(world, row, some_row(world, Random(turn), n))

    def test_stops_at_each_place(self):
        for world in WORLDS:
            stops = set()
            for n in (1, 2, 3, 4, 5):
                for k in range(1, n + 1):
                    row = with_a_stop(world, n, k, 1)
                    if row is not None:
                        came = shifted_undone(world, row, [world.of(1)] * n)
                        self.assertEqual(came[:2], ("stops", k))
                        self.assertEqual(self.check(world, row, noughts(world, n)), "stops")
                        stops.add((n, k))
            self.assertGreater(len(stops), 12, world.told())

    def test_stops_though_all_of_it_could_be_undone(self):
        for world in WORLDS:
            nought, one = world.of(0), world.of(1)
            for n in (2, 3, 5, 8):
                row = noughts(world, 2 * n - 1)
                row[n], row[0] = one, one
                self.assertEqual(undone(world, table_by_words(row), [one] * n)[0], "one")
                self.assertEqual(shifted_undone(world, row, [one] * n), ("stops", 1, [one] + [nought] * (n - 1)))
                self.assertEqual(growth(world, row), [])

    def test_the_pairs_stand_by_the_row_alone(self):
        for world in WORLDS:
            for row in rows_of(world, 5, 4):
                for k, (front, back) in enumerate(growth(world, row), 1):
                    if k < 5:
                        shorter = row[4 - k:5 + k]
                        self.assertEqual(grown(world, row, front, back), grown(world, shorter, front, back))

    def test_forty(self):
        for world in WORLDS:
            random = Random(40)
            some = some_row(world, random, 79)
            steep = noughts(world, 38) + [world.of(1), world.of(1), world.of(-1)] + noughts(world, 38)
            for row in (some, steep, [world.of(1)] + noughts(world, 38) + [world.of(1)] + noughts(world, 39)):
                self.check(world, row, some_row(world, random, 40))
        self.assertEqual(len(growth(FRACTIONS, some_row(FRACTIONS, Random(3), 79))), 40)

    def test_stops_at_the_last_of_forty(self):
        for world in WORLDS:
            row = noughts(world, 39) + [world.of(1)] + noughts(world, 38) + [world.of(1)]
            row[0] = world.of(1)
            came = shifted_undone(world, row, noughts(world, 40))
            self.assertEqual(came, ("stops", 40, [world.of(-1)] + noughts(world, 38) + [world.of(1)]))
            self.check_growth(world, row, 39)

    def test_three_hundred_figures(self):
        numbers = [(GREAT, 1), FRACTIONS.of(1, GREAT_TOO), (-GREAT_TOO, 1), FRACTIONS.of(GREAT, GREAT_TOO), (3, 7)]
        for row in (numbers, numbers[::-1], numbers[1:4], numbers[2:3], [numbers[0]] * 5, numbers[:4] + numbers[:3]):
            n = (len(row) + 1) // 2
            self.check(FRACTIONS, row, (numbers[1:] + numbers)[:n])

    def test_rows_that_tell_no_table(self):
        for world in WORLDS:
            one = world.of(1)
            for row in no_rows(world):
                with self.assertRaises(NoFit):
                    shifted_table(world, row)
                with self.assertRaises(NoFit):
                    growth(world, row)
                for many in (0, 1, 2, len(row) // 2, len(row) // 2 + 1, len(row), 41):
                    with self.assertRaises(NoFit):
                        shifted_undone(world, row, [one] * many)
                    with self.assertRaises(NoFit):
                        grown(world, row, [one] * many, [one] * many)
                with self.assertRaises(NoFit):
                    grown(world, row, [one], [])
                for thing in (None, 7, "aim", (), {}):
                    with self.assertRaises(NoFit):
                        shifted_undone(world, row, thing)
                    with self.assertRaises(NoFit):
                        grown(world, row, thing, thing)

    def test_pairs_that_do_not_fit(self):
        for world in WORLDS:
            one = world.of(1)
            for row, many, more in (([one], 1, 1), ([one] * 3, 2, 2), ([one] * 5, 1, 2), ([one] * 5, 2, 1), ([one] * 3, 0, 0)):
                with self.assertRaises(NoFit):
                    grown(world, row, [one] * many, [one] * more)

    def test_aims_that_do_not_fit(self):
        for world in WORLDS:
            for n in (1, 2, 3, 40):
                for row in rows_of(world, n, 5)[:4]:
                    for many in {0, 1, n - 1, n + 1, 2 * n - 1, 2 * n, 41} - {n}:
                        with self.assertRaises(NoFit):
                            shifted_undone(world, row, noughts(world, many))

    def test_what_tied_means(self):
        for world, n in product(WORLDS, (1, 2, 3, 4)):
            for row in rows_of(world, n, 6):
                parts = [determinant(world, part_of(table_by_words(row), range(k), range(k))) for k in range(1, n + 1)]
                many = parts.index(world.of(0)) if world.of(0) in parts else n
                self.assertEqual(len(growth(world, row)), many)

    def test_arguments_by_name(self):
        self.assertEqual(shifted_table(world=SEVEN, row=[3]), [[3]])
        self.assertEqual(shifted_undone(world=SEVEN, row=[2], aim=[1]), ("one", [4]))
        self.assertEqual(growth(world=SEVEN, row=[2]), [([4], [4])])
        self.assertEqual(grown(world=SEVEN, row=[0, 2, 0], front=[4], back=[4]), ([4, 0], [0, 4]))


class NothingKept(Owned, unittest.TestCase):
    def test_each(self):
        for world in WORLDS[:4]:
            for n in (1, 2, 4):
                for row in rows_of(world, n, 7):
                    self.owned(lambda a: shifted_table(world, a), [row])
                    self.owned(lambda a: growth(world, a), [row])
                    self.owned(lambda a, b: shifted_undone(world, a, b), [row, some_row(world, Random(n), n)])
                    for front, back in growth(world, row)[:n - 1]:
                        self.owned(lambda a, b, c: grown(world, a, b, c), [row, front, back])


if __name__ == "__main__":
    unittest.main()
