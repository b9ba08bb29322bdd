import unittest
from itertools import product
from random import Random

from bandwright.errors import NoOver
from bandwright.polys import common, parted, poly_times, put_together, trimmed
from bandwright.worlds import World
from oracles import SEVEN, SMALL_WHEELS, WORLDS, Owned, all_rows, noughts, number_of, some_row, value
from samples import FRACTIONS, GREAT, GREAT_TOO

TWO = World(("wheel", 2))


def bare(world, row):
    """The row without the noughts at its end."""
    row = list(row)
    while row and row[-1] == world.of(0):
        row.pop()
    return row


def expected_sum(world, one, other):
    many = max(len(one), len(other))
    values = [[value(world, number) for number in row] + [0] * (many - len(row)) for row in (one, other)]
    return bare(world, [number_of(world, a + b) for a, b in zip(*values)])


def expected_times(world, one, other):
    totals = [0] * (len(one) + len(other))
    for i, a in enumerate(one):
        for j, b in enumerate(other):
            totals[i + j] += value(world, a) * value(world, b)
    return bare(world, [number_of(world, total) for total in totals])


def rows_of(world, seed):
    """Rows of all sorts: of none, of noughts, with noughts at the end and within."""
    random = Random(f"{world.told()} {seed}")
    rows = [[], noughts(world, 1), noughts(world, 3), [world.of(1)], [world.of(-1), world.of(1)]]
    for many in (1, 2, 3, 4, 6):
        row = some_row(world, random, many)
        thin = [number if random.random() < 0.5 else world.of(0) for number in row]
        rows += [row, row + noughts(world, 2), thin, noughts(world, 1) + row]
    return rows


class Polys(unittest.TestCase):
    def is_row(self, world, row):
        self.assertIs(type(row), list)
        self.assertTrue(all(world.is_number(number) for number in row))
        self.assertEqual(bare(world, row), row)

    def check_parted(self, world, one, other):
        came = parted(world, one, other)
        self.assertIs(type(came), tuple)
        by, left = came
        self.is_row(world, by)
        self.is_row(world, left)
        self.assertEqual(expected_sum(world, expected_times(world, by, other), left), bare(world, one))
        self.assertLess(len(left), len(bare(world, other)))

    def check_common(self, world, one, other):
        came = common(world, one, other)
        self.assertIs(type(came), tuple)
        g, u, v = came
        for row in came:
            self.is_row(world, row)
        whole = expected_sum(world, expected_times(world, u, one), expected_times(world, v, other))
        self.assertEqual(whole, g)
        if not bare(world, one) and not bare(world, other):
            self.assertEqual(g, [])
            return g
        self.assertEqual(g[-1], world.of(1))
        for row in (one, other):
            by, left = parted(world, row, g)
            self.assertEqual(left, [])
            self.assertEqual(expected_times(world, by, g), bare(world, row))
        return g


class Rows(Polys):
    def test_trimmed(self):
        self.assertEqual(trimmed(SEVEN, [1, 2, 0, 3, 0, 0]), [1, 2, 0, 3])
        self.assertEqual(trimmed(FRACTIONS, [(0, 1), (1, 2), (0, 1)]), [(0, 1), (1, 2)])
        for world in WORLDS:
            self.assertEqual(trimmed(world, []), [])
            for many in (1, 2, 40, 100):
                self.assertEqual(trimmed(world, noughts(world, many)), [])
                self.assertEqual(trimmed(world, [world.of(1)] * many), [world.of(1)] * many)
            for row in rows_of(world, 1):
                self.assertEqual(trimmed(world, row), bare(world, row))

    def test_put_together(self):
        self.assertEqual(put_together(SEVEN, [1, 2, 3], [6, 5, 4]), [])
        self.assertEqual(put_together(SEVEN, [1, 2, 3], [1, 0, 4, 0]), [2, 2])
        self.assertEqual(put_together(SEVEN, [1], [0, 0, 5]), [1, 0, 5])
        self.assertEqual(put_together(FRACTIONS, [(1, 2)], [(1, 3), (0, 1)]), [(5, 6)])
        for world in WORLDS:
            for one, other in product(rows_of(world, 2), repeat=2):
                came = put_together(world, one, other)
                self.is_row(world, came)
                self.assertEqual(came, expected_sum(world, one, other))

    def test_poly_times(self):
        self.assertEqual(poly_times(SEVEN, [1, 1], [6, 1]), [6, 0, 1])
        self.assertEqual(poly_times(SEVEN, [0, 3], [0, 5, 0]), [0, 0, 1])
        self.assertEqual(poly_times(FRACTIONS, [(1, 2), (1, 1)], [(2, 3)]), [(1, 3), (2, 3)])
        for world in WORLDS:
            for one, other in product(rows_of(world, 3), repeat=2):
                came = poly_times(world, one, other)
                self.is_row(world, came)
                self.assertEqual(came, expected_times(world, one, other))

    def test_rows_of_many_numbers(self):
        for world in WORLDS[:4]:
            random = Random(9)
            one, other = some_row(world, random, 90), some_row(world, random, 101)
            self.assertEqual(poly_times(world, one, other), expected_times(world, one, other))
            self.assertEqual(put_together(world, one, other), expected_sum(world, one, other))

    def test_arguments_by_name(self):
        self.assertEqual(trimmed(world=SEVEN, row=[1, 0]), [1])
        for ask, right in ((put_together, [4]), (poly_times, [3]), (parted, ([5], []))):
            self.assertEqual(ask(world=SEVEN, one=[1], other=[3]), right)
        self.assertEqual(common(world=SEVEN, one=[1], other=[3])[0], [1])


class Parted(Polys):
    def test_by_hand(self):
        self.assertEqual(parted(SEVEN, [6, 0, 1], [1, 1]), ([6, 1], []))
        self.assertEqual(parted(SEVEN, [1, 0, 1], [1, 1]), ([6, 1], [2]))
        self.assertEqual(parted(SEVEN, [1, 2], [1, 0, 3, 0]), ([], [1, 2]))
        self.assertEqual(parted(SEVEN, [1, 2, 0, 0], [1, 3, 1]), ([], [1, 2]))
        self.assertEqual(parted(SEVEN, [5, 4, 0], [3, 0]), ([4, 6], []))
        self.assertEqual(parted(SEVEN, [], [3]), ([], []))
        self.assertEqual(parted(SEVEN, [0, 0, 0], [3, 1]), ([], []))
        self.assertEqual(parted(FRACTIONS, [(1, 1), (0, 1), (1, 1)], [(1, 1), (2, 1)]), ([(-1, 4), (1, 2)], [(5, 4)]))

    def test_rows_of_all_sorts(self):
        for world in WORLDS:
            for one, other in product(rows_of(world, 4), repeat=2):
                if bare(world, other):
                    self.check_parted(world, one, other)

    def test_every_pair_of_the_wheel_of_two(self):
        rows = [row for many in range(6) for row in all_rows(2, many)]
        for one in rows:
            for other in rows[:31]:
                if any(other):
                    self.check_parted(TWO, one, other)

    def test_what_is_put_together_is_parted(self):
        for world in WORLDS:
            random = Random(6)
            for many in (1, 2, 5, 40):
                other = some_row(world, random, many) + [world.of(-1)]
                by = bare(world, some_row(world, random, many))
                left = bare(world, some_row(world, random, many))
                one = expected_sum(world, expected_times(world, by, other), left)
                self.assertEqual(parted(world, one, other), (by, left))

    def test_by_nought(self):
        for world in WORLDS:
            for one in rows_of(world, 5):
                for many in (0, 1, 2, 5, 41, 100):
                    with self.assertRaises(NoOver):
                        parted(world, one, noughts(world, many))

    def test_three_hundred_figures(self):
        one = [(GREAT, 1), FRACTIONS.of(1, GREAT_TOO), (0, 1), FRACTIONS.of(GREAT, GREAT_TOO), (-GREAT_TOO, 1)]
        other = [FRACTIONS.of(GREAT_TOO, GREAT), (7, 1), (GREAT_TOO, 1)]
        for first, second in product((one, other, one[:2], other[1:], [(GREAT, 1)]), repeat=2):
            self.check_parted(FRACTIONS, first, second)
            self.check_common(FRACTIONS, first, second)
            self.assertEqual(poly_times(FRACTIONS, first, second), expected_times(FRACTIONS, first, second))
            self.assertEqual(put_together(FRACTIONS, first, second), expected_sum(FRACTIONS, first, second))


class Common(Polys):
    def test_by_hand(self):
        self.assertEqual(common(SEVEN, [6, 0, 1], [1, 1])[0], [1, 1])
        self.assertEqual(common(SEVEN, [6, 0, 1], [2, 2, 0])[0], [1, 1])
        self.assertEqual(common(SEVEN, [1, 1], [6, 1])[0], [1])
        self.assertEqual(common(FRACTIONS, [(-1, 1), (0, 1), (1, 1)], [(1, 1), (-2, 1), (1, 1)])[0], [(-1, 1), (1, 1)])
        self.assertEqual(common(FRACTIONS, [(1, 2)], [(3, 1), (5, 1)])[0], [(1, 1)])

    def test_of_noughts(self):
        for world in WORLDS:
            for one, other in product((0, 1, 3), repeat=2):
                self.assertEqual(self.check_common(world, noughts(world, one), noughts(world, other)), [])
            for row in rows_of(world, 6):
                whole = bare(world, row)
                right = [world.over(number, whole[-1]) for number in whole]
                for many in (0, 1, 8):
                    self.assertEqual(self.check_common(world, row, noughts(world, many)), right)
                    self.assertEqual(self.check_common(world, noughts(world, many), row), right)

    def test_of_a_row_and_itself(self):
        for world in WORLDS:
            for row in rows_of(world, 7):
                whole = bare(world, row)
                right = [world.over(number, whole[-1]) for number in whole]
                self.assertEqual(self.check_common(world, row, row), right)
                self.assertEqual(self.check_common(world, row, row + noughts(world, 3)), right)
                other = [world.times(number, world.of(-1)) for number in row]
                self.assertEqual(self.check_common(world, row, other), right)
                self.assertEqual(self.check_common(world, row, expected_times(world, row, [world.of(0), world.of(1)])),
                                 right)

    def test_of_two_that_have_only_one_in_common(self):
        for world in WORLDS:
            one = world.of(1)
            for many in (1, 2, 3, 7, 20):
                risen = noughts(world, many) + [one]
                self.assertEqual(self.check_common(world, risen, [one] + noughts(world, many)), [one])
                self.assertEqual(self.check_common(world, risen, [one] * (many + 1)), [one])
                self.assertEqual(self.check_common(world, [one] * (many + 1), [one] * many), [one])

    def test_rows_of_all_sorts(self):
        for world in WORLDS:
            for one, other in product(rows_of(world, 8), repeat=2):
                self.check_common(world, one, other)

    def test_the_common_row_is_the_longest(self):
        rows = [row for many in range(5) for row in all_rows(2, many)]
        for one in rows:
            for other in rows:
                g = self.check_common(TWO, one, other)
                if g:
                    both = [row for row in rows if any(row) and not parted(TWO, one, row)[1]
                            and not parted(TWO, other, row)[1]]
                    self.assertEqual(len(g), max([len(bare(TWO, row)) for row in both] + [len(g)]))

    def test_what_was_put_in_is_found(self):
        for world in WORLDS:
            random = Random(10)
            for turn in range(40):
                shared = some_row(world, random, random.randrange(4)) + [world.of(1)]
                one, other = [expected_times(world, shared, some_row(world, random, random.randrange(1, 6)))
                              for row in range(2)]
                g = self.check_common(world, one, other)
                if g:
                    self.assertEqual(parted(world, g, shared)[1], [])

    def test_powers_that_jump(self):
        for world in WORLDS:
            random = Random(11)
            for turn in range(60):
                one, other = [[number if random.random() < 0.25 else world.of(0)
                               for number in some_row(world, random, random.randrange(1, 14))] for row in range(2)]
                self.check_common(world, one, other)

    def test_rows_made_of_long_and_short_quotients(self):
        for world in WORLDS:
            random = Random(13)
            for turn in range(60):
                last, now = [], some_row(world, random, random.randrange(3)) + [world.of(1)]
                right = now
                for step in range(random.randrange(1, 6)):
                    by = bare(world, [world.of(0), world.of(1)] + some_row(world, random, random.randrange(3)))
                    last, now = now, expected_sum(world, expected_times(world, by, now), last)
                self.assertEqual(self.check_common(world, now, last), right)
                self.assertEqual(self.check_common(world, last, now), right)

    def test_rows_of_forty_and_more(self):
        for world in [FRACTIONS, SEVEN, World(("wheel", 997))] + SMALL_WHEELS:
            random = Random(12)
            for many, more in ((40, 41), (41, 40), (60, 30), (5, 80)):
                self.check_common(world, some_row(world, random, many), some_row(world, random, more))
                self.check_parted(world, some_row(world, random, many), some_row(world, random, more - 1) + [world.of(1)])


class NothingKept(Owned, unittest.TestCase):
    def test_each(self):
        for world in WORLDS[:4]:
            rows = rows_of(world, 13)
            for one in rows:
                self.owned(lambda a: trimmed(world, a), [one])
                for other in rows[::3]:
                    for ask in (put_together, poly_times, common):
                        self.owned(lambda a, b: ask(world, a, b), [one, other])
                    if bare(world, other):
                        self.owned(lambda a, b: parted(world, a, b), [one, other])

    def test_of_one_list_handed_in_twice(self):
        for world in WORLDS[:4]:
            for row in rows_of(world, 14):
                for ask in (put_together, poly_times, common):
                    self.owned(lambda a: ask(world, a, a), [row])


if __name__ == "__main__":
    unittest.main()
