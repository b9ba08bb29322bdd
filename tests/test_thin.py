import unittest
from random import Random

from bandwright.errors import NoFit, Tied
from bandwright.plain import back_of, undone
from bandwright.ranks import rank
from bandwright.tables import is_table, one_table
from bandwright.thin import core, thin_undone
from oracles import (SEVEN, SMALL_WHEELS, WORLDS, Owned, all_rows, expected_carried, expected_product, noughts, ones_at,
                     some_row, some_table, tables_of)
from samples import FRACTIONS, GREAT, GREAT_TOO


def plus(world, one, other):
    return [[world.plus(a, b) for a, b in zip(row, more)] for row, more in zip(one, other)]


def core_by_words(world, table, left, right):
    inner = expected_product(world, right, expected_product(world, back_of(world, table), left))
    return plus(world, one_table(world, len(right)), inner)


def thin_parts(world, n, seed):
    """Tables of n rows that can be undone, with thin parts of one column and of more; some tie the whole."""
    random = Random(f"{world.told()} {n} {seed}")
    tables = [table for table in tables_of(world, n, n, seed) if rank(world, table) == n] + [one_table(world, n)]
    for table in tables:
        for k in (1, 2, n, n + 1):
            left, right = some_table(world, random, n, k), some_table(world, random, k, n)
            yield table, left, right
            yield table, left, [noughts(world, n) for row in range(k)]
            yield table, [noughts(world, k) for row in range(n)], right
        # Takes a row of the table away, so that the whole has noughts there.
        row = random.randrange(n)
        yield table, [[number] for number in ones_at(world, n, row)], [[world.minus(world.of(0), number)
                                                                        for number in table[row]]]
        # Takes all of it away.
        yield table, table, [[world.minus(world.of(0), number) for number in row] for row in one_table(world, n)]


class Thin(unittest.TestCase):
    def check_tied(self, world, table, error):
        self.assertEqual(len(error.move), len(table))
        self.assertNotEqual(error.move, noughts(world, len(table)))
        self.assertTrue(all(world.is_number(number) for number in error.move))
        self.assertEqual(expected_carried(world, table, error.move), noughts(world, len(table)))

    def check(self, world, table, left, right, aim):
        whole = plus(world, table, expected_product(world, left, right))
        middle = core_by_words(world, table, left, right)
        self.assertEqual(core(world, table, left, right), middle)
        self.assertIs(is_table(world, middle), True)
        came = thin_undone(world, table, left, right, aim)
        self.assertIs(type(came), tuple)
        if rank(world, whole) == len(whole):
            self.assertEqual(came, undone(world, whole, aim))
            self.assertEqual(came[0], "one")
            self.assertEqual(rank(world, middle), len(middle))
            return "one"
        self.assertEqual((came[0], len(came)), ("loose", 3))
        inner, move = came[1:]
        self.assertEqual((len(inner), len(move)), (len(right), len(table)))
        self.assertNotEqual(inner, noughts(world, len(right)))
        self.assertEqual(expected_carried(world, middle, inner), noughts(world, len(right)))
        self.assertEqual(move, expected_carried(world, back_of(world, table), expected_carried(world, left, inner)))
        self.assertNotEqual(move, noughts(world, len(table)))
        self.assertEqual(expected_carried(world, whole, move), noughts(world, len(table)))
        return "loose"

    def test_by_hand(self):
        self.assertEqual(core(SEVEN, [[2]], [[3]], [[1]]), [[6]])
        self.assertEqual(core(SEVEN, [[1, 0], [0, 2]], [[1], [1]], [[3, 4]]), [[6]])
        self.assertEqual(core(SEVEN, [[2]], [[1, 0]], [[4], [2]]), [[3, 0], [1, 1]])
        self.assertEqual(core(FRACTIONS, [[(2, 1)]], [[(1, 1)]], [[(1, 3)]]), [[(7, 6)]])
        self.assertEqual(thin_undone(SEVEN, [[2]], [[3]], [[1]], [5]), ("one", [1]))
        self.assertEqual(thin_undone(SEVEN, [[1, 0], [0, 2]], [[1], [1]], [[3, 4]], [1, 2]), ("one", [1, 1]))
        self.assertEqual(thin_undone(FRACTIONS, [[(2, 1)]], [[(1, 1)]], [[(1, 3)]], [(1, 1)]), ("one", [(3, 7)]))
        came = thin_undone(SEVEN, [[2]], [[5]], [[1]], [5])
        self.assertEqual(came[0], "loose")
        self.assertEqual(came[2], [SEVEN.times(6, came[1][0])])

    def test_thin_parts_of_all_sorts(self):
        for world in WORLDS:
            kinds = set()
            for n in (1, 2, 3, 4):
                for seed in (1, 2):
                    for table, left, right in thin_parts(world, n, seed):
                        kinds.add(self.check(world, table, left, right, some_row(world, Random(f"{n} {seed}"), n)))
            self.assertEqual(kinds, {"one", "loose"})

    def test_every_part_of_one_column_on_the_wheel_of_three(self):
        three = SMALL_WHEELS[1]
        for table in ([[1, 0], [0, 1]], [[0, 1], [1, 1]], [[2, 1], [1, 1]]):
            for left in all_rows(3, 2):
                for right in all_rows(3, 2):
                    self.check(three, table, [[number] for number in left], [right], [1, 2])

    def test_tables_without_a_back(self):
        for world in WORLDS:
            for n in (1, 2, 3, 4):
                for table in tables_of(world, n, n, 3):
                    if rank(world, table) < n:
                        for k in (1, 2):
                            left, right = some_table(world, Random(1), n, k), some_table(world, Random(2), k, n)
                            with self.assertRaises(Tied) as told:
                                core(world, table, left, right)
                            self.check_tied(world, table, told.exception)
                            with self.assertRaises(Tied) as told:
                                thin_undone(world, table, left, right, some_row(world, Random(3), n))
                            self.check_tied(world, table, told.exception)

    def test_tied_though_the_whole_could_be_undone(self):
        for world in WORLDS:
            table, left, right = [[world.of(0)]], [[world.of(1)]], [[world.of(1)]]
            for ask in (lambda: core(world, table, left, right), lambda: thin_undone(world, table, left, right, right[0])):
                with self.assertRaises(Tied) as told:
                    ask()
                self.check_tied(world, table, told.exception)

    def test_forty(self):
        for world in WORLDS:
            random = Random(40)
            table = one_table(world, 40)
            for i in range(39):
                table[i][i + 1] = world.of(1)
            for k in (1, 3, 40):
                left, right = some_table(world, random, 40, k, 2), some_table(world, random, k, 40, 2)
                self.check(world, table, left, right, some_row(world, random, 40))

    def test_three_hundred_figures(self):
        table = [[(GREAT, 1), FRACTIONS.of(1, GREAT_TOO)], [(-GREAT_TOO, 1), FRACTIONS.of(GREAT, GREAT_TOO)]]
        left = [[(GREAT_TOO, 1)], [FRACTIONS.of(GREAT_TOO, GREAT)]]
        right = [[FRACTIONS.of(3, GREAT), (GREAT, 1)]]
        aim = [(GREAT, 1), FRACTIONS.of(GREAT_TOO, 7)]
        self.assertEqual(self.check(FRACTIONS, table, left, right, aim), "one")
        away = [[FRACTIONS.minus((0, 1), number) for number in table[0]]]
        self.assertEqual(self.check(FRACTIONS, table, [[(1, 1)], [(0, 1)]], away, aim), "loose")
        same = [table[0], [FRACTIONS.times(number, (GREAT, 1)) for number in table[0]]]
        with self.assertRaises(Tied) as told:
            thin_undone(FRACTIONS, same, left, right, aim)
        self.check_tied(FRACTIONS, same, told.exception)

    def test_what_does_not_fit(self):
        for world in WORLDS:
            for n in (1, 2, 3):
                for k in (1, 2):
                    fit = {"table": (n, n), "left": (n, k), "right": (k, n)}
                    sizes = []
                    for name in fit:
                        down, across = fit[name]
                        for other in ((down + 1, across), (down, across + 1), (down + 2, across + 1)):
                            sizes.append({**fit, name: other})
                        if down > 1:
                            sizes.append({**fit, name: (down - 1, across)})
                        if across > 1:
                            sizes.append({**fit, name: (down, across - 1)})
                    if n != k:
                        sizes.append({**fit, "left": (k, n)})
                        sizes.append({**fit, "right": (n, k)})
                    for size in sizes:
                        for make in (lambda down, across: [noughts(world, across) for row in range(down)],
                                     lambda down, across: some_table(world, Random(down), down, across)):
                            tables = [make(*size[name]) for name in ("table", "left", "right")]
                            with self.assertRaises(NoFit, msg=size):
                                core(world, *tables)
                            for many in (n, 0, n + 1):
                                with self.assertRaises(NoFit, msg=size):
                                    thin_undone(world, *tables, noughts(world, many))

    def test_aims_that_do_not_fit(self):
        for world in WORLDS:
            for n in (1, 2, 3, 40):
                left, right = [[world.of(1)]] * n, [[world.of(1)] * n]
                for table in (one_table(world, n), [noughts(world, n) for row in range(n)]):
                    for many in {0, 1, n - 1, n + 1, 41} - {n}:
                        with self.assertRaises(NoFit):
                            thin_undone(world, table, left, right, noughts(world, many))

    def test_arguments_by_name(self):
        self.assertEqual(core(world=SEVEN, table=[[2]], left=[[3]], right=[[1]]), [[6]])
        self.assertEqual(thin_undone(world=SEVEN, table=[[2]], left=[[3]], right=[[1]], aim=[5]), ("one", [1]))


class NothingKept(Owned, unittest.TestCase):
    def test_each(self):
        for world in WORLDS[:4]:
            for n in (1, 2, 3):
                for table, left, right in thin_parts(world, n, 4):
                    self.owned(lambda a, b, c: core(world, a, b, c), [table, left, right])
                    self.owned(lambda a, b, c, d: thin_undone(world, a, b, c, d),
                               [table, left, right, some_row(world, Random(n), n)])

    def test_a_refusal(self):
        def moved(world, *handed):
            try:
                return core(world, *handed)
            except Tied as error:
                return error.move

        for world in WORLDS[:4]:
            for n in (1, 2, 3):
                left, right = some_table(world, Random(1), n, 2), some_table(world, Random(2), 2, n)
                for table in tables_of(world, n, n, 5):
                    self.owned(lambda a, b, c: moved(world, a, b, c), [table, left, right])


if __name__ == "__main__":
    unittest.main()
