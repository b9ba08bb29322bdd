"""The same tables undone in every way that the program has, held against one another."""

import unittest
from itertools import combinations, permutations, product
from random import Random

from bandwright.along import along
from bandwright.errors import Tied
from bandwright.factors import are_factors, factors
from bandwright.fewest import fewest, shows_fewest, worths
from bandwright.named import best, named
from bandwright.orders import deeds, filled
from bandwright.perfect import is_bare_ring, perfect
from bandwright.plain import are_moves, back_of, is_answer, is_bar, undone
from bandwright.ranks import is_rank_paper, rank, rank_paper
from bandwright.shapes import shape_of, triangles
from bandwright.shifted import growth, shifted_table, shifted_undone
from bandwright.split import split, split_undone
from bandwright.standing import Standing
from bandwright.tables import carried, one_table, product as table_product
from bandwright.thin import core, thin_undone
from bandwright.turned import turned_back, turned_table, turned_undone
from bandwright.twofold import twofold, twofold_undone
from oracles import WORLDS, noughts, part_of, some_order, some_row, some_shape, some_table, tables_of, tied
from samples import FRACTIONS


def less(world, one, other):
    return [[world.minus(a, b) for a, b in zip(row, more)] for row, more in zip(one, other)]


def shifted_row_of(row):
    """The row whose shifted table is the turned table of this one."""
    n = len(row)
    return [row[(place - n + 1) % n] for place in range(2 * n - 1)]


def table_of_shape(world, shape, random):
    """A table that links just what the shape does, with numbers in both corners or in one."""
    table = [noughts(world, shape[0]) for row in range(shape[0])]
    for place in range(shape[0]):
        table[place][place] = world.of(random.randint(0, 3))
    for i, j in shape[1]:
        table[i][j], table[j][i] = random.choice([(world.of(1), world.of(-1)), (world.of(0), world.of(1)),
                                                  (world.of(-1), world.of(0))])
    return table


class Whole(unittest.TestCase):
    def is_move(self, world, table, move):
        self.assertEqual(len(move), len(table[0]))
        self.assertNotEqual(move, noughts(world, len(move)))
        self.assertEqual(carried(world, table, move), noughts(world, len(table)))

    def plainly(self, world, table, aim):
        """What the plain way tells, shown; and that the other two don't hold."""
        came = undone(world, table, aim)
        full = rank(world, table) == len(table[0])
        self.assertIs(is_rank_paper(world, table, rank_paper(world, table)), True)
        if came[0] == "barred":
            self.assertIs(is_bar(world, table, aim, came[1]), True)
        else:
            self.assertIs(is_answer(world, table, aim, came[1]), True)
            self.assertEqual(came[0], "one" if full else "many")
        if came[0] == "many":
            self.assertIs(are_moves(world, table, came[2]), True)
        return came

    def by_orders(self, world, table, aim, plain, orders):
        shape = shape_of(world, table)
        for order in orders:
            came = along(world, table, order, aim)
            stop = tied(world, table, order)
            pair = factors(world, table, order)
            self.assertEqual(pair is None, stop is not None)
            if stop is None:
                self.assertEqual(came, plain + (deeds(shape, order),))
                self.assertIs(are_factors(world, table, order, pair[0], pair[1]), True)
            else:
                self.assertEqual(came[:2], ("stops", stop))
                part = part_of(table, order[:stop], order[:stop])
                self.is_move(world, part, [came[2][place] for place in order[:stop]])
            self.standing(world, table, aim, order, came)

    def standing(self, world, table, aim, order, right):
        """Stood up with all its numbers one, and changed into the table, it tells what the table itself does."""
        n = len(order)
        stands = Standing(world, [[world.of(1)] * n for row in range(n)], order)
        for i, j in product(range(n), repeat=2):
            stands.change(i, j, table[i][j])
        came = stands.ask(aim)
        self.assertEqual(came[:2] if came[0] == "one" else came, right[:2] if right[0] == "one" else right)
        self.assertEqual(stands.kept(), factors(world, table, order))
        self.assertEqual(Standing(world, table, order).ask(aim), right)

    def by_splits(self, world, table, aim, plain):
        n = len(table)
        for part in [list(part) for many in range(1, n) for part in combinations(range(n), many)]:
            own = part_of(table, part, part)
            if rank(world, own) < len(part):
                with self.assertRaises(Tied) as told:
                    split_undone(world, table, part, aim)
                self.is_move(world, own, told.exception.move)
                continue
            self.assertEqual(rank(world, table), len(part) + rank(world, split(world, table, part)[1]))
            came = split_undone(world, table, part, aim)
            if plain[0] == "one":
                self.assertEqual(came, plain)
            else:
                self.assertEqual(came[0], "loose")
                self.is_move(world, table, came[1])

    def by_thin_parts(self, world, table, aim, plain):
        n = len(table)
        one = one_table(world, n)
        column = [[row[0]] for row in less(world, table, one)]
        rest = [[one[i][j] if j == 0 else number for j, number in enumerate(row)] for i, row in enumerate(table)]
        for base, left, right in ((one, less(world, table, one), one), (one, one, less(world, table, one)),
                                  (rest, column, one[:1])):
            if back_of(world, base) is None:
                with self.assertRaises(Tied) as told:
                    thin_undone(world, base, left, right, aim)
                self.is_move(world, base, told.exception.move)
                continue
            came = thin_undone(world, base, left, right, aim)
            if plain[0] == "one":
                self.assertEqual(came, plain)
            else:
                self.assertEqual(came[0], "loose")
                self.is_move(world, core(world, base, left, right), came[1])
                self.is_move(world, table, came[2])

    def twofold(self, world, table, aim, plain):
        unit = [[world.of(1)]]
        self.assertEqual(twofold(world, unit, table), table)
        self.assertEqual(twofold(world, table, unit), table)
        for which, came in ((0, twofold_undone(world, table, unit, aim)), (1, twofold_undone(world, unit, table, aim))):
            if plain[0] == "one":
                self.assertEqual(came, plain)
            else:
                self.assertEqual(came[:2], ("loose", which))
                self.is_move(world, table, came[2])

    def everywhere(self, world, table, aim, orders):
        plain = self.plainly(world, table, aim)
        if plain[0] == "one":
            self.assertEqual(plain[1], carried(world, back_of(world, table), aim))
        self.by_orders(world, table, aim, plain, orders)
        self.by_splits(world, table, aim, plain)
        self.by_thin_parts(world, table, aim, plain)
        self.twofold(world, table, aim, plain)
        return plain

    def test_tables_of_all_sorts(self):
        kinds = set()
        for world in WORLDS:
            for n in (1, 2, 3, 4):
                random = Random(f"{world.told()} {n}")
                for table in tables_of(world, n, n, 1) + [one_table(world, n)]:
                    orders = [list(range(n)), some_order(random, n), some_order(random, n)]
                    for aim in (some_row(world, random, n), carried(world, table, some_row(world, random, n))):
                        kinds.add((world.told(), self.everywhere(world, table, aim, orders)[0]))
        self.assertEqual(len(kinds), 3 * len(WORLDS))

    def test_tables_that_are_not_square(self):
        for world in WORLDS:
            for n, m in ((1, 3), (3, 1), (2, 4), (4, 2), (3, 4)):
                for table in tables_of(world, n, m, 2):
                    self.plainly(world, table, some_row(world, Random(n), n))

    def test_turned_tables_that_are_shifted_too(self):
        for world in WORLDS:
            kinds = set()
            for n in (1, 2, 3, 4):
                random = Random(f"{world.told()} {n} turned")
                for row in [some_row(world, random, n, 2) for turn in range(6)] + [[world.of(1)] * n, noughts(world, n)]:
                    kinds.add(self.check_turned(world, row, some_row(world, random, n), random))
            self.assertEqual(kinds, {"one", "loose"})

    def check_turned(self, world, row, aim, random):
        n = len(row)
        table = turned_table(world, row)
        whole = shifted_row_of(row)
        self.assertEqual(shifted_table(world, whole), table)
        plain = self.everywhere(world, table, aim, [list(range(n)), some_order(random, n)])
        by_pairs = shifted_undone(world, whole, aim)
        self.assertEqual(by_pairs, along(world, table, list(range(n)), aim)[:2 if by_pairs[0] == "one" else 3])
        self.assertEqual(len(growth(world, whole)), n if by_pairs[0] == "one" else by_pairs[1] - 1)
        came = turned_undone(world, row, aim)
        if plain[0] == "one":
            self.assertEqual(came, plain)
            self.assertEqual(turned_table(world, turned_back(world, row)), back_of(world, table))
        else:
            self.assertEqual(came[0], "loose")
            self.is_move(world, table, came[2])
            self.assertEqual(rank(world, table), n - len(came[1]) + 1)
        return came[0]

    def test_tables_of_tables(self):
        for world in WORLDS:
            random = Random(f"{world.told()} twofold")
            for one in tables_of(world, 2, 2, 3):
                for other in tables_of(world, 2, 2, 4)[:5]:
                    aim = some_row(world, random, 4)
                    whole = twofold(world, one, other)
                    plain = self.everywhere(world, whole, aim, [some_order(random, 4)])
                    came = twofold_undone(world, one, other, aim)
                    if plain[0] == "one":
                        self.assertEqual(came, plain)
                        self.assertEqual(back_of(world, whole), twofold(world, back_of(world, one), back_of(world, other)))
                    else:
                        self.is_move(world, whole, came[2])

    def test_shapes_undone_with_the_fewest_deeds(self):
        for world in WORLDS:
            random = Random(f"{world.told()} shapes")
            for n in (1, 3, 4, 5):
                for much in (0.3, 0.6):
                    table = table_of_shape(world, some_shape(random, n, much), random)
                    self.check_deeds(world, table, some_row(world, random, n))

    def check_deeds(self, world, table, aim):
        shape = shape_of(world, table)
        order, many = fewest(shape)
        self.assertIs(shows_fewest(shape, order, worths(shape)), True)
        kind, told = perfect(shape)
        if kind == "order":
            self.assertEqual(many, deeds(shape, told))
        else:
            self.assertIs(is_bare_ring(shape, told), True)
        plain = undone(world, table, aim)
        for each in permutations(range(shape[0])):
            whole = filled(shape, list(each))
            came = along(world, table, list(each), aim)
            if came[0] == "one":
                self.assertEqual(came[:2], plain)
                self.assertEqual(came[2], 4 * len(whole[1]) + 2 * triangles(whole) + whole[0])
                self.assertGreaterEqual(came[2], many)
            self.assertTrue(kind == "order" or whole != shape)

    def test_named_tables_along_their_best_orders(self):
        for world in WORLDS:
            random = Random(f"{world.told()} named")
            for told in (("band", 8, 2), ("brim", 8, 1), ("ring", 8), ("ladder", 4), ("tree", (0, 0, 1, 1, 4, 2, 0)),
                         ("ring", 30), ("ladder", 20), ("band", 40, 3)):
                shape = named(told)
                table = table_of_shape(world, shape, random)
                aim = some_row(world, random, shape[0])
                self.assertEqual(shape_of(world, table), shape)
                order, many = best(told)
                came = along(world, table, order, aim)
                self.assertEqual(Standing(world, table, order).ask(aim), came)
                if came[0] == "one":
                    self.assertEqual(came, undone(world, table, aim) + (many,))
                else:
                    self.assertEqual(factors(world, table, order), None)

    def test_great_ones(self):
        for world in WORLDS:
            random = Random(f"{world.told()} great")
            for n in (12, 40):
                row = some_row(world, random, n, 3)
                aim = some_row(world, random, n, 3)
                table = turned_table(world, row)
                plain = undone(world, table, aim)
                order = some_order(random, n)
                part = sorted(order[:n // 3])
                answers = [turned_undone(world, row, aim), along(world, table, order, aim)[:2],
                           shifted_undone(world, shifted_row_of(row), aim)[:2],
                           twofold_undone(world, [[world.of(1)]], table, aim)]
                if back_of(world, part_of(table, part, part)) is not None:
                    answers.append(split_undone(world, table, part, aim))
                for came in answers:
                    if came[0] == "one":
                        self.assertEqual(came, plain)
                    else:
                        self.assertIn(came[0], ("stops", "loose"))

    def test_thin_parts_put_to_bands(self):
        for world in WORLDS:
            random = Random(f"{world.told()} thin")
            for n in (3, 8):
                table = table_of_shape(world, named(("band", n, 1)), random)
                for k in (1, 2):
                    left, right = some_table(world, random, n, k, 2), some_table(world, random, k, n, 2)
                    whole = [[world.plus(a, b) for a, b in zip(row, more)]
                             for row, more in zip(table, table_product(world, left, right))]
                    aim = some_row(world, random, n)
                    if back_of(world, table) is not None:
                        came = thin_undone(world, table, left, right, aim)
                        plain = undone(world, whole, aim)
                        if came[0] == "one":
                            self.assertEqual(came, plain)
                        else:
                            self.assertNotEqual(plain[0], "one")
                            self.is_move(world, whole, came[2])

    def test_by_hand(self):
        table = [[(1, 1), (2, 1), (0, 1)], [(1, 2), (3, 1), (1, 1)], [(0, 1), (-1, 1), (4, 1)]]
        aim = [(1, 1), (0, 1), (-3, 2)]
        answer = ("one", [(10, 9), (-1, 18), (-7, 18)])
        self.assertEqual(undone(FRACTIONS, table, aim), answer)
        self.assertEqual(along(FRACTIONS, table, [2, 0, 1], aim), answer + (11,))
        self.assertEqual(split_undone(FRACTIONS, table, [1], aim), answer)
        self.assertEqual(twofold_undone(FRACTIONS, table, [[(1, 1)]], aim), answer)
        self.assertEqual(Standing(FRACTIONS, table, [1, 2, 0]).ask(aim), answer + (17,))


if __name__ == "__main__":
    unittest.main()
