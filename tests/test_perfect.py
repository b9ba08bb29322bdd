import unittest
from itertools import combinations, permutations, product
from random import Random

from bandwright.errors import NoOrder
from bandwright.orders import deeds, filled
from bandwright.perfect import is_bare_ring, is_perfect, perfect
from oracles import (Owned, all_shapes, band, filled_by_walks, ladder, linked, mixed, no_orders, ring, some_order,
                     some_shape, tree)
from samples import GREAT


def is_ring_by_words(shape, places):
    if len(places) < 4 or len(set(places)) < len(places) or not set(places) <= set(range(shape[0])):
        return False
    for a, b in combinations(range(len(places)), 2):
        beside = b == a + 1 or (a, b) == (0, len(places) - 1)
        if linked(shape, places[a], places[b]) != beside:
            return False
    return True


def bare_rings(shape):
    return [list(places) for many in range(4, shape[0] + 1) for places in permutations(range(shape[0]), many)
            if is_ring_by_words(shape, places)]


WITH_ORDER = ([(1, ()), (60, ()), band(60, 59), ring(3)] + [band(n, w) for n in (2, 5, 60) for w in (1, 2, 4) if w < n]
              + [tree(n, seed) for n in (2, 7, 60) for seed in (1, 2)])
WITHOUT = [ring(n) for n in (4, 5, 6, 17, 60)] + [ladder(k) for k in (2, 3, 30)]


class Perfect(unittest.TestCase):
    def check(self, shape):
        came = perfect(shape)
        self.assertIs(type(came), tuple)
        self.assertEqual(len(came), 2)
        self.assertIs(type(came[1]), list)
        if came[0] == "order":
            self.assertEqual(sorted(came[1]), list(range(shape[0])))
            self.assertEqual(filled(shape, came[1]), shape)
        else:
            self.assertEqual(came[0], "ring")
            self.assertTrue(is_ring_by_words(shape, came[1]), (shape, came))
            self.assertIs(is_bare_ring(shape, came[1]), True)
        return came[0]

    def test_by_hand(self):
        self.assertEqual(perfect((1, ())), ("order", [0]))
        kind, places = perfect((4, ((0, 2), (0, 3), (1, 2), (1, 3))))
        self.assertEqual((kind, sorted(places)), ("ring", [0, 1, 2, 3]))
        kind, places = perfect((3, ((0, 1), (0, 2))))
        self.assertEqual(kind, "order")
        self.assertNotEqual(places[0], 0)

    def test_named_ones(self):
        for seed in range(4):
            for shape in WITH_ORDER:
                self.assertEqual(self.check(mixed(shape, seed) if seed else shape), "order")
            for shape in WITHOUT:
                self.assertEqual(self.check(mixed(shape, seed) if seed else shape), "ring")

    def test_all_small_shapes(self):
        for n in range(1, 6):
            for shape in all_shapes(n):
                kind = self.check(shape)
                orders = [order for order in permutations(range(n)) if filled(shape, list(order)) == shape]
                self.assertEqual(kind, "order" if orders else "ring", shape)
                self.assertEqual(kind, "ring" if bare_rings(shape) else "order", shape)

    def test_whatever_shapes(self):
        kinds = set()
        for n in (6, 7, 10, 25, 60):
            random = Random(n)
            for much in (0.03, 0.1, 0.3, 0.5, 0.7, 0.9, 0.97):
                for turn in range(3):
                    shape = some_shape(random, n, much)
                    kinds.add(self.check(shape))
                    whole = filled(shape, some_order(random, n))
                    self.assertEqual(self.check(whole), "order")
        self.assertEqual(kinds, {"order", "ring"})

    def test_one_ring_among_much_else(self):
        for n in (10, 60):
            for seed in range(5):
                random = Random(seed)
                links = {(i, j) for i, j in combinations(range(n - 5), 2) if j - i <= 3}
                links |= {(n - 5 + i, n - 4 + i) for i in range(4)} | {(n - 5, n - 1)}
                links |= {(0, place) for place in range(n - 5, n)} | {(0, place) for place in range(1, n - 5)}
                shape = mixed((n, tuple(sorted(links))), seed)
                self.assertEqual(self.check(shape), "ring")
                self.assertEqual(len(perfect(shape)[1]), 5)
                self.assertEqual(self.check(filled(shape, some_order(random, n))), "order")

    def test_arguments_by_name(self):
        self.assertEqual(perfect(shape=(1, ())), ("order", [0]))


class IsPerfect(unittest.TestCase):
    def test_all_small_shapes(self):
        for n in range(1, 5):
            for shape in all_shapes(n):
                for order in permutations(range(n)):
                    right = filled_by_walks(shape, list(order)) == shape
                    self.assertIs(is_perfect(shape, list(order)), right)

    def test_sixty_places(self):
        self.assertIs(is_perfect(band(60, 3), list(range(60))), True)
        self.assertIs(is_perfect(band(60, 3), list(reversed(range(60)))), True)
        self.assertIs(is_perfect(band(60, 3), [1, 0] + list(range(2, 60))), False)
        self.assertIs(is_perfect(band(60, 3), [30] + list(range(30)) + list(range(31, 60))), False)
        self.assertIs(is_perfect(ring(60), list(range(60))), False)
        self.assertIs(is_perfect(band(60, 59), some_order(Random(1), 60)), True)

    def test_what_is_no_order(self):
        for shape in ((1, ()), (2, ((0, 1),)), (4, ((0, 1), (1, 2))), ring(4), band(60, 1)):
            for order in no_orders(shape[0]):
                with self.assertRaises(NoOrder):
                    is_perfect(shape, order)

    def test_all_perfect_orders_have_the_same_deeds_and_no_other_order_has_fewer(self):
        for n in range(1, 6):
            for shape in all_shapes(n)[::1 if n < 5 else 5]:
                right = set()
                other = set()
                for order in permutations(range(n)):
                    many = deeds(shape, list(order))
                    (right if is_perfect(shape, list(order)) else other).add(many)
                self.assertLessEqual(len(right), 1)
                if right and other:
                    self.assertGreater(min(other), max(right))

    def test_each_order_links_two_places_of_each_bare_ring(self):
        for shape in [ring(4), ring(5), mixed(ring(6), 1), ladder(3)] + all_shapes(5)[::7]:
            rings = bare_rings(shape)
            for order in permutations(range(shape[0])) if rings else ():
                new = set(filled(shape, list(order))[1]) - set(shape[1])
                for places in rings:
                    self.assertTrue(any(i in places and j in places for i, j in new))

    def test_arguments_by_name(self):
        self.assertIs(is_perfect(shape=(1, ()), order=[0]), True)


class IsBareRing(unittest.TestCase):
    def test_rings(self):
        for n in (4, 5, 9, 60):
            places = list(range(n))
            for turn in range(n):
                self.assertIs(is_bare_ring(ring(n), places[turn:] + places[:turn]), True)
                self.assertIs(is_bare_ring(ring(n), list(reversed(places[turn:] + places[:turn]))), True)
            self.assertIs(is_bare_ring(ring(n), places[:-1]), False)
            self.assertIs(is_bare_ring(ring(n), places[1:]), False)
            self.assertIs(is_bare_ring(ring(n), [1, 0] + places[2:]), False)

    def test_three_places_are_none(self):
        self.assertIs(is_bare_ring(ring(3), [0, 1, 2]), False)
        self.assertIs(is_bare_ring(band(5, 4), [0, 1, 2]), False)
        for places in ([], [0], [0, 1], [1, 1], [0, 1, 0, 1]):
            self.assertIs(is_bare_ring((2, ((0, 1),)), places), False)

    def test_with_a_place_twice(self):
        for places in ([0, 1, 2, 3, 0], [0, 1, 2, 3, 0, 1, 2, 3], [0, 1, 2, 1], [0, 0, 1, 2, 3], [0, 1, 0, 3]):
            self.assertIs(is_bare_ring(ring(4), places), False)
        two_rings = (5, ((0, 1), (0, 2), (0, 3), (0, 4), (1, 2), (3, 4)))
        self.assertIs(is_bare_ring(two_rings, [0, 1, 2, 0, 3, 4]), False)
        two_rings = (7, ((0, 1), (0, 3), (0, 4), (0, 6), (1, 2), (2, 3), (4, 5), (5, 6)))
        self.assertIs(is_bare_ring(two_rings, [0, 1, 2, 3, 0, 4, 5, 6]), False)
        self.assertIs(is_bare_ring(two_rings, [0, 1, 2, 3]), True)

    def test_with_two_others_linked(self):
        for n in (4, 5, 6, 8):
            for i, j in combinations(range(n), 2):
                shape = (n, tuple(sorted(set(ring(n)[1]) | {(i, j)})))
                self.assertIs(is_bare_ring(shape, list(range(n))), shape == ring(n))

    def test_with_a_link_left_out(self):
        for n in (4, 5, 8):
            for link in ring(n)[1]:
                shape = (n, tuple(each for each in ring(n)[1] if each != link))
                self.assertIs(is_bare_ring(shape, list(range(n))), False)

    def test_numbers_that_are_no_places(self):
        for places in ([-4, 1, 2, 3], [0, 1, 2, -1], [0, 1, 2, 4], [4, 5, 6, 7], [1, 2, 3, 4], [GREAT, 1, 2, 3],
                       [-GREAT, 1, 2, 3], [0, 1, 2, 3, 4], [-1, -2, -3, -4]):
            self.assertIs(is_bare_ring(ring(4), places), False, places)

    def test_truths_are_no_places(self):
        for places in ([False, 1, 2, 3], [0, True, 2, 3], [False, True, 2, 3]):
            self.assertIs(is_bare_ring(ring(4), places), False)

    def test_all_short_lists(self):
        shapes = [ring(4), band(4, 2), band(4, 3), (4, ()), (5, ((0, 2), (0, 3), (1, 2), (1, 3), (1, 4))), ring(5)]
        for shape in shapes + all_shapes(4)[::5]:
            for many in (0, 1, 2, 3, 4):
                for places in product(range(-1, 6), repeat=many):
                    right = is_ring_by_words(shape, places)
                    self.assertIs(is_bare_ring(shape, list(places)), right, (shape, places))

    def test_arguments_by_name(self):
        self.assertIs(is_bare_ring(shape=ring(4), places=[0, 1, 2, 3]), True)


class NothingKept(Owned, unittest.TestCase):
    def test_each(self):
        for shape in (ring(3), ring(5), band(6, 2), (1, ()), ladder(3), tree(7, 1)):
            order = list(range(shape[0]))
            self.owned(lambda: perfect(shape), [])
            self.owned(lambda places: is_perfect(shape, places), [order])
            self.owned(lambda places: is_bare_ring(shape, places), [order])


if __name__ == "__main__":
    unittest.main()
