import unittest
from itertools import combinations, permutations
from random import Random

from bandwright.errors import NoOrder
from bandwright.orders import deeds, filled, later
from bandwright.shapes import is_shape
from oracles import (Owned, all_shapes, deeds_by_count, filled_by_walks, linked, no_orders, some_order, some_shape)

SIXTY = list(range(60))
ALL_OF_SIXTY = (60, tuple(combinations(SIXTY, 2)))


def filled_by_turns(shape, order):
    """Place by place, as the document tells it."""
    links = set(shape[1])
    for turn, place in enumerate(order):
        behind = [other for other in order[turn + 1:] if (min(place, other), max(place, other)) in links]
        links.update((min(pair), max(pair)) for pair in combinations(behind, 2))
    return (shape[0], tuple(sorted(links)))


class Orders(unittest.TestCase):
    def check(self, shape, order):
        whole = filled_by_walks(shape, order)
        self.assertEqual(filled_by_turns(shape, order), whole)
        came = filled(shape, order)
        self.assertIs(is_shape(came), True)
        self.assertEqual(came, whole)
        told = later(shape, order)
        turns = {place: turn for turn, place in enumerate(order)}
        self.assertEqual(told, [[other for other in range(shape[0]) if turns[other] > turns[place]
                                 and linked(whole, place, other)] for place in range(shape[0])])
        self.assertIs(type(told), list)
        self.assertTrue(all(type(row) is list for row in told))
        many = deeds(shape, order)
        self.assertIs(type(many), int)
        self.assertEqual(many, sum(len(row) ** 2 + 3 * len(row) + 1 for row in told))
        self.assertEqual(many, deeds_by_count(shape, order))

    def test_by_hand(self):
        ring = (4, ((0, 1), (0, 3), (1, 2), (2, 3)))
        self.assertEqual(filled(ring, [0, 1, 2, 3]), (4, ((0, 1), (0, 3), (1, 2), (1, 3), (2, 3))))
        self.assertEqual(filled(ring, [1, 3, 0, 2]), (4, ((0, 1), (0, 2), (0, 3), (1, 2), (2, 3))))
        self.assertEqual(later(ring, [0, 1, 2, 3]), [[1, 3], [2, 3], [3], []])
        self.assertEqual(later(ring, [3, 2, 1, 0]), [[], [0], [0, 1], [0, 2]])
        self.assertEqual(deeds(ring, [0, 1, 2, 3]), 11 + 11 + 5 + 1)
        self.assertEqual((filled((1, ()), [0]), later((1, ()), [0]), deeds((1, ()), [0])), ((1, ()), [[]], 1))

    def test_all_small_shapes_in_all_orders(self):
        for n in range(1, 5):
            for shape in all_shapes(n):
                for order in permutations(range(n)):
                    self.check(shape, list(order))

    def test_greater_shapes(self):
        for n in (5, 6, 7, 8, 12):
            random = Random(n)
            for much in (0.1, 0.2, 0.3, 0.5, 0.8):
                for turn in range(6):
                    self.check(some_shape(random, n, much), some_order(random, n))

    def test_sixty_places(self):
        random = Random(60)
        self.check((60, tuple((i, i + 1) for i in range(59))), some_order(random, 60))
        star = (60, tuple((0, i) for i in range(1, 60)))
        self.assertEqual(filled(star, SIXTY), ALL_OF_SIXTY)
        self.assertEqual(filled(star, SIXTY[::-1]), star)
        self.assertEqual(later(star, SIXTY), [SIXTY[place + 1:] for place in SIXTY])
        self.assertEqual(deeds(star, SIXTY[::-1]), 59 * 5 + 1)
        self.assertEqual(deeds(ALL_OF_SIXTY, some_order(random, 60)), sum(d * d + 3 * d + 1 for d in SIXTY))
        self.assertEqual(deeds((60, ()), some_order(random, 60)), 60)
        self.assertEqual(filled((60, ()), some_order(random, 60)), (60, ()))

    def test_what_is_no_order(self):
        shapes = [(1, ()), (2, ()), (2, ((0, 1),)), (3, ((0, 2),)), (5, ((0, 1), (1, 4))), (60, ((0, 59),)), ALL_OF_SIXTY]
        for shape in shapes:
            for order in no_orders(shape[0]):
                for ask in (filled, later, deeds):
                    with self.assertRaises(NoOrder):
                        ask(shape, order)

    def test_all_lists_of_three(self):
        shape = (3, ((0, 1), (1, 2)))
        for a in range(-3, 5):
            for b in range(-3, 5):
                for c in range(-3, 5):
                    if sorted([a, b, c]) != [0, 1, 2]:
                        for ask in (filled, later, deeds):
                            with self.assertRaises(NoOrder):
                                ask(shape, [a, b, c])

    def test_truths_are_no_places(self):
        for order in ([True, False], [0, True], [False, 1]):
            for ask in (filled, later, deeds):
                with self.assertRaises(NoOrder):
                    ask((2, ((0, 1),)), order)

    def test_an_order_is_a_list(self):
        for order in ((0, 1), {0: 1, 1: 0}, "01", [0, "1"], [0, None], [[0], [1]]):
            for ask in (filled, later, deeds):
                with self.assertRaises(NoOrder):
                    ask((2, ((0, 1),)), order)

    def test_arguments_by_name(self):
        self.assertEqual(filled(shape=(1, ()), order=[0]), (1, ()))
        self.assertEqual(later(shape=(1, ()), order=[0]), [[]])
        self.assertEqual(deeds(shape=(1, ()), order=[0]), 1)


class NothingKept(Owned, unittest.TestCase):
    def test_each(self):
        for shape in ((1, ()), (4, ((0, 1), (0, 3), (1, 2), (2, 3))), (5, ()), (5, ((0, 1), (0, 2), (0, 3), (0, 4)))):
            order = list(range(shape[0]))
            for ask in (filled, later, deeds):
                self.owned(lambda places: ask(shape, places), [order])
                self.owned(lambda places: ask(shape, places), [order[::-1]])


if __name__ == "__main__":
    unittest.main()
