import unittest
from itertools import product as pairs_of
from random import Random

from bandwright.errors import NoFit
from bandwright.plain import are_moves, back_of, is_answer, is_bar, undone
from bandwright.tables import is_table, one_table, product
from bandwright.worlds import World
from oracles import (SEVEN, SMALL_WHEELS, WORLDS, Owned, all_rows, changed, determinant, expected_carried,
                     expected_product, expected_through, made_of, noughts, ones_at, products_sum, rank_by_parts,
                     some_row, some_table, tables_of, turned_about)
from samples import FRACTIONS, GREAT, GREAT_TOO, told

TWO = World(("wheel", 2))
SIZES = [(1, 1), (1, 4), (4, 1), (2, 2), (2, 4), (4, 2), (3, 3), (3, 4), (4, 3), (4, 4)]


def cases(worlds, sizes, seed=1):
    """Tables of all sorts with aims that are carried to, aims of noughts, and aims of whatever."""
    for world in worlds:
        for n, m in sizes:
            random = Random(f"{world.told()} {n} {m}")
            for table in tables_of(world, n, m, seed):
                hit = expected_carried(world, table, some_row(world, random, m))
                for aim in (hit, noughts(world, n), some_row(world, random, n), ones_at(world, n, n - 1)):
                    yield world, table, aim


def kind_by_ranks(world, table, aim):
    rank = rank_by_parts(world, table)
    if rank_by_parts(world, [row + [number] for row, number in zip(table, aim)]) > rank:
        return "barred"
    return "one" if rank == len(table[0]) else "many"


class Undone(unittest.TestCase):
    def check_row(self, world, row, many):
        self.assertIs(type(row), list)
        self.assertEqual(len(row), many)
        self.assertTrue(all(world.is_number(number) for number in row))

    def check_answer(self, world, table, aim, row):
        self.check_row(world, row, len(table[0]))
        self.assertEqual(expected_carried(world, table, row), aim)

    def check_bar(self, world, table, aim, row):
        self.check_row(world, row, len(table))
        self.assertEqual(expected_through(world, row, table), noughts(world, len(table[0])))
        self.assertEqual(products_sum(world, zip(row, aim)), world.of(1))

    def check_told(self, world, table, aim, came):
        """What was told is of one of the three kinds, and shown."""
        self.assertIs(type(came), tuple)
        self.assertEqual(len(came), {"one": 2, "many": 3, "barred": 2}[came[0]])
        if came[0] == "barred":
            self.check_bar(world, table, aim, came[1])
            return
        self.check_answer(world, table, aim, came[1])
        if came[0] == "many":
            self.assertIs(type(came[2]), list)
            self.assertGreater(len(came[2]), 0)
            for move in came[2]:
                self.check_answer(world, table, noughts(world, len(table)), move)

    def test_by_hand(self):
        self.assertEqual(undone(SEVEN, [[1, 2], [3, 4]], [5, 4]), ("one", [1, 2]))
        self.assertEqual(undone(FRACTIONS, [[(2, 1), (1, 1)], [(0, 1), (3, 1)]], [(0, 1), (1, 1)]),
                         ("one", [(-1, 6), (1, 3)]))
        self.assertEqual(undone(TWO, [[1, 1], [1, 1]], [0, 1]), ("barred", [1, 1]))
        self.assertEqual(undone(FRACTIONS, [[(0, 1)]], [(5, 2)]), ("barred", [(2, 5)]))
        came = undone(TWO, [[1, 1]], [1])
        self.assertIn(came, [("many", [1, 0], [[1, 1]]), ("many", [0, 1], [[1, 1]])])

    def test_each_of_three_as_the_ranks_tell(self):
        kinds = set()
        for world, table, aim in cases(WORLDS, SIZES):
            came = undone(world, table, aim)
            self.check_told(world, table, aim, came)
            self.assertEqual(came[0], kind_by_ranks(world, table, aim))
            kinds.add((world.told(), came[0]))
        self.assertEqual(len(kinds), 3 * len(WORLDS))

    def test_moves_are_as_many_as_the_rank_lacks_and_none_is_made_of_others(self):
        for world, table, aim in cases(WORLDS, SIZES):
            came = undone(world, table, aim)
            if came[0] == "many":
                self.assertEqual(len(came[2]), len(table[0]) - rank_by_parts(world, table))
                self.assertEqual(rank_by_parts(world, came[2]), len(came[2]))

    def test_small_wheels_by_going_through_all_rows(self):
        for world, table, aim in cases(SMALL_WHEELS, [(1, 1), (1, 3), (3, 1), (2, 2), (3, 2), (2, 3), (3, 3)], 2):
            prime = world.told()[1]
            rows = all_rows(prime, len(table[0]))
            right = [row for row in rows if expected_carried(world, table, row) == aim]
            came = undone(world, table, aim)
            self.check_told(world, table, aim, came)
            self.assertEqual(came[0], "barred" if not right else "one" if len(right) == 1 else "many")
            if came[0] == "many":
                idle = [row for row in rows if expected_carried(world, table, row) == noughts(world, len(table))]
                made = [expected_through(world, by, came[2]) for by in all_rows(prime, len(came[2]))]
                self.assertEqual(sorted(made), sorted(idle))

    def test_every_table_of_two_by_two_on_small_wheels(self):
        for world in SMALL_WHEELS[:2]:
            rows = all_rows(world.told()[1], 2)
            for first, second, aim in pairs_of(rows, rows, rows):
                table = [first, second]
                right = [row for row in rows if expected_carried(world, table, row) == aim]
                came = undone(world, table, aim)
                self.check_told(world, table, aim, came)
                self.assertEqual(came[0], "barred" if not right else "one" if len(right) == 1 else "many")

    def test_tables_of_noughts(self):
        for world in WORLDS:
            for n, m in ((1, 1), (1, 3), (3, 1), (40, 40)):
                table = [noughts(world, m) for row in range(n)]
                came = undone(world, table, noughts(world, n))
                self.check_told(world, table, noughts(world, n), came)
                self.assertEqual((came[0], len(came[2])), ("many", m))
                for place in (0, n - 1):
                    came = undone(world, table, ones_at(world, n, place))
                    self.check_told(world, table, ones_at(world, n, place), came)
                    self.assertEqual(came[0], "barred")

    def test_forty_by_forty(self):
        for world in WORLDS:
            random = Random(40)
            lower = [[number if j < i else world.of(int(i == j)) for j, number in enumerate(row)]
                     for i, row in enumerate(some_table(world, random, 40, 40))]
            upper = turned_about(lower)
            full = expected_product(world, lower, upper)
            row = some_row(world, random, 40)
            self.assertEqual(undone(world, full, expected_carried(world, full, row)), ("one", row))
            full[39] = list(full[0])
            aim = expected_carried(world, full, row)
            came = undone(world, full, aim)
            self.check_told(world, full, aim, came)
            self.assertEqual((came[0], len(came[2])), ("many", 1))
            aim[39] = world.plus(aim[39], world.of(1))
            came = undone(world, full, aim)
            self.check_told(world, full, aim, came)
            self.assertEqual(came[0], "barred")

    def test_three_hundred_figures(self):
        random = Random(300)
        numbers = [told(0), told(1), (GREAT, 1), (-GREAT_TOO, 1), (1, GREAT), FRACTIONS.of(GREAT, GREAT_TOO),
                   FRACTIONS.of(-GREAT_TOO, 10 ** 299), FRACTIONS.of(GREAT - 10, GREAT)]
        for n, m in ((1, 1), (1, 3), (3, 1), (2, 2), (3, 3), (3, 4), (4, 3)):
            table = [[random.choice(numbers) for j in range(m)] for i in range(n)]
            for aim in ([random.choice(numbers) for i in range(n)], noughts(FRACTIONS, n),
                        expected_carried(FRACTIONS, table, [random.choice(numbers) for j in range(m)])):
                came = undone(FRACTIONS, table, aim)
                self.check_told(FRACTIONS, table, aim, came)
                self.assertEqual(came[0], kind_by_ranks(FRACTIONS, table, aim))

    def test_aims_of_another_length(self):
        for world in WORLDS:
            for n, m in ((1, 1), (1, 3), (3, 1), (2, 3), (3, 3), (40, 39)):
                for table in (some_table(world, Random(n), n, m), [noughts(world, m) for row in range(n)]):
                    for length in [*range(0, 5), n - 1, n + 1, 39, 41, 80]:
                        if length != n:
                            with self.assertRaises(NoFit):
                                undone(world, table, noughts(world, length))

    def test_somewhat_beyond_the_bounds_nothing_is_refused(self):
        self.assertEqual(undone(SEVEN, one_table(SEVEN, 43), [3] * 43), ("one", [3] * 43))

    def test_arguments_by_name(self):
        self.assertEqual(undone(world=SEVEN, table=[[2]], aim=[1]), ("one", [4]))


class IsAnswerIsBar(unittest.TestCase):
    def test_told_answers_and_bars(self):
        for world, table, aim in cases(WORLDS, SIZES, 3):
            came = undone(world, table, aim)
            if came[0] == "barred":
                self.assertIs(is_bar(world, table, aim, came[1]), True)
            else:
                self.assertIs(is_answer(world, table, aim, came[1]), True)
            if came[0] == "many":
                for move in came[2]:
                    more = [world.plus(a, b) for a, b in zip(came[1], move)]
                    self.assertIs(is_answer(world, table, aim, more), True)

    def test_with_a_number_changed(self):
        for world, table, aim in cases(WORLDS, SIZES, 4):
            came = undone(world, table, aim)
            for place in range(len(came[1])):
                row = changed(world, came[1], place)
                if came[0] == "one":
                    self.assertIs(is_answer(world, table, aim, row), False)
                if came[0] == "many":
                    right = expected_carried(world, table, row) == aim
                    self.assertIs(is_answer(world, table, aim, row), right)
                if came[0] == "barred":
                    right = (expected_through(world, row, table) == noughts(world, len(table[0]))
                             and products_sum(world, zip(row, aim)) == world.of(1))
                    self.assertIs(is_bar(world, table, aim, row), right)
            for place in range(len(aim)):
                if came[0] != "barred":
                    self.assertIs(is_answer(world, table, changed(world, aim, place), came[1]), False)

    def test_all_rows_and_aims_of_small_wheels(self):
        for world in SMALL_WHEELS[:2]:
            prime = world.told()[1]
            tables = [[row] for row in all_rows(prime, 2)] + [[[a], [b]] for a, b in all_rows(prime, 2)]
            tables += [[first, second] for first in all_rows(prime, 2) for second in all_rows(prime, 2)][::3]
            handed = [row for many in range(4) for row in all_rows(prime, many)]
            for table in tables:
                for aim, row in pairs_of(handed[::2], handed):
                    fits = len(aim) == len(table) and len(row) == len(table[0])
                    right = fits and expected_carried(world, table, row) == aim
                    self.assertIs(is_answer(world, table, aim, row), right)
                    fits = len(aim) == len(table) and len(row) == len(table)
                    right = (fits and not any(expected_through(world, row, table))
                             and products_sum(world, zip(row, aim)) == 1)
                    self.assertIs(is_bar(world, table, aim, row), right, (table, aim, row))

    def test_other_lengths(self):
        for world in WORLDS:
            for n, m in ((1, 1), (1, 3), (3, 1), (2, 3), (3, 3)):
                table = [noughts(world, m) for row in range(n)]
                for length in range(0, 45):
                    for other in [*range(0, 5), 41]:
                        row = noughts(world, length)
                        self.assertIs(is_answer(world, table, noughts(world, other), row), length == m and other == n)
                        bar = [world.of(1)] * length
                        aim = ones_at(world, other, 0)
                        self.assertIs(is_bar(world, table, aim, bar), length == n and other == n)

    def test_a_bar_must_come_to_one(self):
        self.assertIs(is_bar(SEVEN, [[0, 0], [0, 0]], [1, 2], [1, 0]), True)
        self.assertIs(is_bar(SEVEN, [[0, 0], [0, 0]], [1, 2], [2, 0]), False)
        self.assertIs(is_bar(SEVEN, [[0, 0], [0, 0]], [1, 2], [0, 0]), False)
        self.assertIs(is_bar(SEVEN, [[0, 0], [0, 1]], [1, 0], [1, 1]), False)
        self.assertIs(is_bar(SEVEN, [[1, 0], [0, 1]], [1, 0], [1, 0]), False)
        self.assertIs(is_bar(FRACTIONS, [[(0, 1)]], [(3, 2)], [(2, 3)]), True)
        self.assertIs(is_bar(FRACTIONS, [[(0, 1)]], [(3, 2)], [(3, 2)]), False)

    def test_arguments_by_name(self):
        self.assertIs(is_answer(world=SEVEN, table=[[2]], aim=[1], row=[4]), True)
        self.assertIs(is_bar(world=SEVEN, table=[[0]], aim=[2], row=[4]), True)


class AreMoves(unittest.TestCase):
    def moves_of(self, world, table):
        came = undone(world, table, noughts(world, len(table)))
        return came[2] if came[0] == "many" else []

    def test_told_moves(self):
        for world, table, aim in cases(WORLDS, SIZES, 5):
            came = undone(world, table, aim)
            if came[0] == "many":
                self.assertIs(are_moves(world, table, came[2]), True)
                self.assertIs(are_moves(world, table, list(reversed(came[2]))), True)
                self.assertIs(are_moves(world, table, []), False)

    def test_where_just_noughts_are_carried_to_noughts_there_are_none(self):
        for world in WORLDS:
            for table in (one_table(world, 1), one_table(world, 4), [[world.of(1)], [world.of(0)], [world.of(1)]]):
                self.assertIs(are_moves(world, table, []), True)
                self.assertIs(are_moves(world, table, [noughts(world, len(table[0]))]), False)
                self.assertIs(are_moves(world, table, [[]]), False)
                self.assertIs(are_moves(world, table, [ones_at(world, len(table[0]), 0)]), False)

    def test_other_right_ones(self):
        for world in WORLDS[:3]:
            for n, m in ((1, 4), (2, 4), (3, 4)):
                for table in tables_of(world, n, m, 6):
                    moves = self.moves_of(world, table)
                    if moves:
                        other = [[world.of(0) if j > i else world.of(2) if j == i else world.of(j + 1)
                                  for j in range(len(moves))] for i in range(len(moves))]
                        self.assertIs(are_moves(world, table, expected_product(world, other, moves)), True)

    def test_changed_ones(self):
        for world in WORLDS:
            for n, m in SIZES:
                for table in tables_of(world, n, m, 7):
                    moves = self.moves_of(world, table)
                    for place, move in enumerate(moves):
                        rest = moves[:place] + moves[place + 1:]
                        for rows in (rest, moves + [move], rest + [noughts(world, m)], rest + [move + [world.of(0)]],
                                     rest + [move[:-1]], rest + [[]], moves + [noughts(world, m)], moves + [[]],
                                     [move] + moves, [move] * 45, moves + [ones_at(world, m, 0)] * 2,
                                     [row + row for row in moves]):
                            if rows != moves:
                                self.assertIs(are_moves(world, table, rows), False, rows)
                        if rest:
                            self.assertIs(are_moves(world, table, rest + [made_of(world, Random(place), rest)]), False)
                            self.assertIs(are_moves(world, table, rest + [rest[0]]), False)

    def test_with_a_number_changed(self):
        for world in WORLDS:
            for n, m in SIZES:
                for table in tables_of(world, n, m, 8):
                    moves = self.moves_of(world, table)
                    for place in range(len(moves)):
                        for at in range(m):
                            rows = moves[:place] + [changed(world, moves[place], at)] + moves[place + 1:]
                            right = (expected_carried(world, table, rows[place]) == noughts(world, n)
                                     and rank_by_parts(world, rows) == len(rows))
                            self.assertIs(are_moves(world, table, rows), right)

    def test_all_lists_of_rows_of_the_wheel_of_two(self):
        rows = all_rows(2, 2) + [[], [1], [0, 0, 0], [1, 0, 0]]
        lists = [[]] + [[a] for a in rows] + [[a, b] for a in rows for b in rows] + [[[1, 0], [0, 1], [1, 1]]]
        for table in [[a] for a in all_rows(2, 2)] + [[a, b] for a in all_rows(2, 2) for b in all_rows(2, 2)]:
            idle = [row for row in all_rows(2, 2) if not any(expected_carried(TWO, table, row))]
            for handed in lists:
                made = []
                if all(len(row) == 2 for row in handed):
                    made = [expected_through(TWO, by, handed) if handed else [0, 0] for by in all_rows(2, len(handed))]
                self.assertIs(are_moves(TWO, table, handed), sorted(made) == sorted(idle), (table, handed))

    def test_rows_that_are_not_carried_to_noughts(self):
        self.assertIs(are_moves(SEVEN, [[1, 1]], [[1, 6]]), True)
        self.assertIs(are_moves(SEVEN, [[1, 1]], [[1, 5]]), False)
        self.assertIs(are_moves(SEVEN, [[1, 1]], [[6, 1]]), True)

    def test_arguments_by_name(self):
        self.assertIs(are_moves(world=SEVEN, table=[[0]], rows=[[3]]), True)


class BackOf(unittest.TestCase):
    def test_by_hand(self):
        self.assertEqual(back_of(SEVEN, [[3]]), [[5]])
        self.assertEqual(back_of(SEVEN, [[0]]), None)
        self.assertEqual(back_of(FRACTIONS, [[(0, 1), (2, 1)], [(1, 2), (1, 1)]]), [[(-1, 1), (2, 1)], [(1, 2), (0, 1)]])
        self.assertEqual(back_of(TWO, [[1, 1], [1, 0]]), [[0, 1], [1, 1]])
        self.assertEqual(back_of(SEVEN, [[1, 2], [2, 4]]), None)

    def test_on_either_side_the_product_is_the_one_table(self):
        kinds = set()
        for world in WORLDS:
            for n in (1, 2, 3, 4, 5):
                for seed in (1, 2):
                    for table in tables_of(world, n, n, seed):
                        back = back_of(world, table)
                        kinds.add((world.told(), back is None))
                        if determinant(world, table) == world.of(0):
                            self.assertIs(back, None)
                        else:
                            self.assertIs(is_table(world, back), True)
                            self.assertEqual(expected_product(world, table, back), one_table(world, n))
                            self.assertEqual(expected_product(world, back, table), one_table(world, n))
        self.assertEqual(len(kinds), 2 * len(WORLDS))

    def test_forty_by_forty(self):
        for world in WORLDS:
            lower = [[number if j < i else world.of(int(i == j)) for j, number in enumerate(row)]
                     for i, row in enumerate(some_table(world, Random(4), 40, 40))]
            table = product(world, lower, turned_about(lower))
            back = back_of(world, table)
            self.assertEqual(product(world, table, back), one_table(world, 40))
            self.assertEqual(product(world, back, table), one_table(world, 40))
            table[20] = list(table[39])
            self.assertIs(back_of(world, table), None)

    def test_three_hundred_figures(self):
        table = [[(GREAT, 1), FRACTIONS.of(1, GREAT_TOO), (1, 1)], [FRACTIONS.of(GREAT, GREAT_TOO), (1, 1), (0, 1)],
                 [(-GREAT_TOO, 1), (GREAT, 1), FRACTIONS.of(7, GREAT)]]
        back = back_of(FRACTIONS, table)
        self.assertEqual(expected_product(FRACTIONS, table, back), one_table(FRACTIONS, 3))
        table[2] = [FRACTIONS.times(number, (GREAT_TOO, 3)) for number in table[0]]
        self.assertIs(back_of(FRACTIONS, table), None)

    def test_as_many_rows_as_columns(self):
        for world in WORLDS:
            for n, m in ((1, 2), (2, 1), (2, 3), (3, 2), (1, 40), (40, 39)):
                for table in (some_table(world, Random(n), n, m), [noughts(world, m) for row in range(n)]):
                    with self.assertRaises(NoFit):
                        back_of(world, table)

    def test_arguments_by_name(self):
        self.assertEqual(back_of(world=SEVEN, table=[[2]]), [[4]])


class NothingKept(Owned, unittest.TestCase):
    def test_each(self):
        for world, table, aim in cases(WORLDS[:4], [(1, 1), (2, 3), (3, 2), (3, 3)], 9):
            self.owned(lambda a, b: undone(world, a, b), [table, aim])
            row = some_row(world, Random(1), len(table[0]))
            self.owned(lambda a, b, c: is_answer(world, a, b, c), [table, aim, row])
            self.owned(lambda a, b, c: is_bar(world, a, b, c), [table, aim, aim])
            self.owned(lambda a, b: are_moves(world, a, b), [table, [row]])
            if len(table) == len(table[0]):
                self.owned(lambda a: back_of(world, a), [table])

    def test_one_row_handed_in_several_times(self):
        row = [1, 2]
        self.assertEqual(undone(SEVEN, [row, row], row), ("barred", undone(SEVEN, [[1, 2], [1, 2]], [1, 2])[1]))
        self.assertEqual(row, [1, 2])
        self.assertIs(back_of(SEVEN, [row, row]), None)
        self.assertEqual(row, [1, 2])


if __name__ == "__main__":
    unittest.main()
