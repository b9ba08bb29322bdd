import unittest
from itertools import combinations
from random import Random

from bandwright.errors import NoFit
from bandwright.shapes import is_shape, near, shape_of, triangles
from oracles import SEVEN, WORLDS, Owned, all_shapes, linked, noughts, some_shape, some_table, triangles_of
from samples import FRACTIONS, GREAT, other_things

ALL_OF_SIXTY = (60, tuple(combinations(range(60), 2)))


class IsShape(unittest.TestCase):
    def test_shapes(self):
        for n in range(1, 61):
            self.assertIs(is_shape((n, ())), True)
            self.assertIs(is_shape((n, tuple(combinations(range(n), 2)))), True)
            self.assertIs(is_shape((n, tuple((i, i + 1) for i in range(n - 1)))), True)
        for n in range(1, 5):
            for shape in all_shapes(n):
                self.assertIs(is_shape(shape), True)

    def test_sizes(self):
        for n in (0, 61, 62, -1, -60, 100, GREAT, -GREAT):
            self.assertIs(is_shape((n, ())), False)
            self.assertIs(is_shape((n, ((0, 1),))), False)
        self.assertIs(is_shape((61, ALL_OF_SIXTY[1])), False)

    def test_every_link_of_small_numbers(self):
        for n in range(1, 5):
            for i in range(-2, 7):
                for j in range(-2, 7):
                    self.assertIs(is_shape((n, ((i, j),))), 0 <= i < j < n, (n, i, j))

    def test_links_must_rise(self):
        links = list(combinations(range(4), 2))
        for one in links:
            for other in links:
                self.assertIs(is_shape((4, (one, other))), one < other, (one, other))
        self.assertIs(is_shape((4, ((0, 1), (1, 2), (0, 2)))), False)
        self.assertIs(is_shape((4, ((0, 2), (0, 1), (1, 2)))), False)
        self.assertIs(is_shape((4, ((0, 1), (1, 2), (1, 2)))), False)
        self.assertIs(is_shape((60, ALL_OF_SIXTY[1] + ((58, 59),))), False)
        self.assertIs(is_shape((60, ((58, 59),) + ALL_OF_SIXTY[1])), False)

    def test_links_of_other_lengths(self):
        for link in ((), (0,), (1,), (0, 1, 2), (0, 1, 1)):
            self.assertIs(is_shape((3, (link,))), False)
            self.assertIs(is_shape((3, ((0, 1), link))), False)
            self.assertIs(is_shape((3, (link, (1, 2)))), False)

    def test_truths_are_no_whole_numbers(self):
        for shape in ((True, ()), (False, ()), (2, ((False, True),)), (2, ((False, 1),)), (2, ((0, True),)),
                      (3, ((0, 1), (True, 2)))):
            self.assertIs(is_shape(shape), False, shape)

    def test_lists_are_no_tuples(self):
        for shape in ([2, ((0, 1),)], (2, [(0, 1)]), (2, ([0, 1],)), (2, []), [2, ()], (2, {(0, 1)}), (2, {(0, 1): 1}),
                      (2, "01"), (2, ("01",)), (2, None), (2, 0), (2, (0, 1)), (2, (None,)), (2, ({0: 1, 1: 0},))):
            self.assertIs(is_shape(shape), False, shape)

    def test_other_lengths(self):
        for shape in ((), (2,), (2, (), ()), (2, ((0, 1),), 0), ((), 2), ((0, 1), (1, 2))):
            self.assertIs(is_shape(shape), False, shape)

    def test_anything_else(self):
        for thing in other_things() + ["2", 2, 2.0, GREAT]:
            self.assertIs(is_shape(thing), False, thing)
            self.assertIs(is_shape((thing, ())), type(thing) is int and thing == 2, thing)
            if thing != ():
                self.assertIs(is_shape((3, thing)), False, thing)
            if not (isinstance(thing, tuple) and thing == (1, 2)):
                self.assertIs(is_shape((3, (thing,))), False, thing)
            self.assertIs(is_shape((3, ((thing, 1),))), False, thing)
            self.assertIs(is_shape((9, ((0, thing),))), type(thing) is int and thing == 2, thing)

    def test_arguments_by_name(self):
        self.assertIs(is_shape(thing=(1, ())), True)


class ShapeOf(unittest.TestCase):
    def test_one_number_alone(self):
        for world in WORLDS:
            for n in (1, 2, 3, 5):
                for i in range(n):
                    for j in range(n):
                        table = [noughts(world, n) for row in range(n)]
                        table[i][j] = world.of(1, 1)
                        self.assertEqual(shape_of(world, table), (n, () if i == j else ((min(i, j), max(i, j)),)))

    def test_tables(self):
        for world in WORLDS:
            for n in (1, 2, 4, 7, 40):
                random = Random(n)
                for much in (0, 0.1, 0.3, 0.7, 1):
                    table = some_table(world, random, n, n)
                    table = [[number if random.random() < much else world.of(0) for number in row] for row in table]
                    shape = shape_of(world, table)
                    self.assertIs(is_shape(shape), True)
                    self.assertEqual(shape[0], n)
                    for i, j in combinations(range(n), 2):
                        filled = table[i][j] != world.of(0) or table[j][i] != world.of(0)
                        self.assertEqual((i, j) in shape[1], filled)

    def test_very_small_and_great_numbers_are_not_nought(self):
        table = [[(0, 1), (1, GREAT)], [(0, 1), (0, 1)]]
        self.assertEqual(shape_of(FRACTIONS, table), (2, ((0, 1),)))
        table = [[(0, 1), (0, 1)], [(-GREAT, 1), (0, 1)]]
        self.assertEqual(shape_of(FRACTIONS, table), (2, ((0, 1),)))

    def test_as_many_rows_as_columns(self):
        for world in WORLDS:
            for n, m in ((1, 2), (2, 1), (2, 3), (3, 2), (40, 39), (1, 40)):
                for table in (some_table(world, Random(n), n, m), [noughts(world, m) for row in range(n)]):
                    with self.assertRaises(NoFit):
                        shape_of(world, table)

    def test_arguments_by_name(self):
        self.assertEqual(shape_of(world=SEVEN, table=[[0]]), (1, ()))


class NearAndTriangles(unittest.TestCase):
    def check(self, shape):
        for place in range(shape[0]):
            told = near(shape, place)
            self.assertIs(type(told), list)
            self.assertEqual(told, [other for other in range(shape[0]) if other != place and linked(shape, place, other)])
        self.assertIs(type(triangles(shape)), int)
        self.assertEqual(triangles(shape), triangles_of(shape))

    def test_by_hand(self):
        shape = (4, ((0, 1), (0, 3), (1, 3), (2, 3)))
        self.assertEqual([near(shape, place) for place in range(4)], [[1, 3], [0, 3], [3], [0, 1, 2]])
        self.assertEqual(triangles(shape), 1)
        self.assertEqual(triangles((1, ())), 0)

    def test_all_small_shapes(self):
        for n in range(1, 6):
            for shape in all_shapes(n):
                self.check(shape)

    def test_greater_shapes(self):
        for n in (6, 9, 20, 40):
            for much in (0.1, 0.5, 0.9):
                self.check(some_shape(Random(n), n, much))

    def test_sixty_places(self):
        self.assertEqual(triangles(ALL_OF_SIXTY), 60 * 59 * 58 // 6)
        self.assertEqual(near(ALL_OF_SIXTY, 30), [place for place in range(60) if place != 30])
        self.assertEqual((triangles((60, ())), near((60, ()), 59)), (0, []))

    def test_arguments_by_name(self):
        self.assertEqual(near(shape=(2, ((0, 1),)), place=1), [0])
        self.assertEqual(triangles(shape=(2, ((0, 1),))), 0)


class NothingKept(Owned, unittest.TestCase):
    def test_each(self):
        shape = (4, ((0, 1), (0, 3), (1, 3), (2, 3)))
        for place in range(4):
            self.owned(lambda: near(shape, place), [])
        for world in WORLDS:
            self.owned(lambda table: shape_of(world, table), [some_table(world, Random(3), 3, 3)])


if __name__ == "__main__":
    unittest.main()
