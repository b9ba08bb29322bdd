import unittest
from itertools import combinations, permutations
from random import Random

from bandwright.errors import NoOrder, NoSize
from bandwright.fewest import cost, fewest, shows_fewest, worths
from bandwright.orders import deeds
from oracles import (Owned, all_shapes, band, deeds_by_count, ladder, mixed, no_orders, reached, ring, some_order,
                     some_shape, tree)
from samples import GREAT

TEN = [(10, ()), ring(10), band(10, 9), (60, ()), (11, ((0, 1),))]
SOME = [(1, ()), (2, ()), (2, ((0, 1),)), ring(4), ring(5), ladder(2), tree(5, 1), band(5, 2), (4, ()), band(4, 3)]


def rising(n):
    return [places for many in range(n + 1) for places in combinations(range(n), many)]


def cost_by_walks(shape, done, place):
    d = len(reached(shape, place, done) - set(done))
    return d * d + 3 * d + 1


def behind(done, place):
    return tuple(sorted(done + (place,)))


def fewest_left(shape, done):
    """The fewest deeds behind some undone places, by going through all orders of the others."""
    left = [place for place in range(shape[0]) if place not in done]
    totals = []
    for order in permutations(left):
        now = done
        total = 0
        for place in order:
            total += cost_by_walks(shape, now, place)
            now = behind(now, place)
        totals.append(total)
    return min(totals)


def shows_by_words(shape, order, told):
    n = shape[0]
    if sorted(told) != sorted(rising(n)) or told[tuple(range(n))] > 0 or told[()] != deeds_by_count(shape, order):
        return False
    return all(told[done] <= cost_by_walks(shape, done, place) + told[behind(done, place)]
               for done in rising(n) for place in range(n) if place not in done)


class Costs(unittest.TestCase):
    def test_by_hand(self):
        self.assertEqual(cost(ring(4), (), 0), 11)
        self.assertEqual(cost(ring(4), (1, 3), 0), 5)
        self.assertEqual(cost(ring(4), (0, 1, 3), 2), 1)
        self.assertEqual(cost((1, ()), (), 0), 1)
        star = (5, ((0, 1), (0, 2), (0, 3), (0, 4)))
        self.assertEqual([cost(star, (), 1), cost(star, (0,), 1), cost(star, (0, 2), 1)], [5, 19, 11])

    def test_by_walks(self):
        for shape in [shape for n in range(1, 5) for shape in all_shapes(n)]:
            for done in rising(shape[0]):
                for place in range(shape[0]):
                    if place not in done:
                        self.assertEqual(cost(shape, done, place), cost_by_walks(shape, done, place))

    def test_greater_shapes(self):
        random = Random(1)
        for n in (6, 7, 8, 9):
            for much in (0.2, 0.3, 0.5):
                shape = some_shape(random, n, much)
                for done in random.sample(rising(n)[:-1], 40):
                    for place in range(n):
                        if place not in done:
                            self.assertEqual(cost(shape, done, place), cost_by_walks(shape, done, place))

    def test_the_costs_in_an_order_come_to_its_deeds(self):
        random = Random(2)
        for n in (1, 4, 7, 9):
            for turn in range(5):
                shape = some_shape(random, n, 0.4)
                order = some_order(random, n)
                total = sum(cost(shape, tuple(sorted(order[:k])), place) for k, place in enumerate(order))
                self.assertEqual(total, deeds(shape, order))

    def test_ten_places_are_refused(self):
        for shape in TEN:
            with self.assertRaises(NoSize):
                cost(shape, (), 0)
            with self.assertRaises(NoSize):
                cost(shape, (0, 1), 9)
        self.assertEqual(cost(ring(9), (), 0), 11)

    def test_arguments_by_name(self):
        self.assertEqual(cost(shape=(2, ()), done=(1,), place=0), 1)


class Worths(unittest.TestCase):
    def check(self, shape, told):
        self.assertIs(type(told), dict)
        self.assertEqual(sorted(told), sorted(rising(shape[0])))
        self.assertTrue(all(type(key) is tuple for key in told))
        self.assertTrue(all(type(worth) is int for worth in told.values()))

    def test_by_hand(self):
        self.assertEqual(worths((1, ())), {(): 1, (0,): 0})
        self.assertEqual(worths((2, ())), {(): 2, (0,): 1, (1,): 1, (0, 1): 0})
        self.assertEqual(worths((2, ((0, 1),))), {(): 6, (0,): 1, (1,): 1, (0, 1): 0})
        self.assertEqual(worths(ring(4))[()], 28)

    def test_the_fewest_deeds_still_to_be_done(self):
        shapes = [shape for n in range(1, 5) for shape in all_shapes(n)] + all_shapes(5)[::23] + [ring(5), ladder(3)]
        for shape in shapes:
            told = worths(shape)
            self.check(shape, told)
            for done in rising(shape[0]) if shape[0] < 6 else rising(shape[0])[::3]:
                self.assertEqual(told[done], fewest_left(shape, done), (shape, done))

    def test_the_least_of_a_cost_and_the_worth_behind_it(self):
        random = Random(3)
        for n in (6, 8, 9):
            for much in (0.2, 0.4, 0.7):
                shape = some_shape(random, n, much)
                told = worths(shape)
                self.check(shape, told)
                self.assertEqual(told[tuple(range(n))], 0)
                for done in random.sample(rising(n)[:-1], 60):
                    self.assertEqual(told[done], min(cost_by_walks(shape, done, place) + told[behind(done, place)]
                                                     for place in range(n) if place not in done))

    def test_ten_places_are_refused(self):
        for shape in TEN:
            with self.assertRaises(NoSize):
                worths(shape)
        self.assertEqual(len(worths((9, ()))), 512)

    def test_arguments_by_name(self):
        self.assertEqual(worths(shape=(1, ())), {(): 1, (0,): 0})


class Fewest(unittest.TestCase):
    def check(self, shape):
        came = fewest(shape)
        self.assertIs(type(came), tuple)
        self.assertEqual(len(came), 2)
        self.assertIs(type(came[0]), list)
        self.assertEqual(sorted(came[0]), list(range(shape[0])))
        self.assertEqual(deeds_by_count(shape, came[0]), came[1])
        return came[1]

    def test_of_all_orders(self):
        shapes = [shape for n in range(1, 5) for shape in all_shapes(n)] + all_shapes(5)[::9] + [ring(6), ladder(3)]
        for shape in shapes:
            least = min(deeds(shape, list(order)) for order in permutations(range(shape[0])))
            self.assertEqual(self.check(shape), least)

    def test_up_to_nine_places(self):
        for n in range(3, 10):
            self.assertEqual(self.check(ring(n)), 11 * n - 16)
            self.assertEqual(self.check(mixed(ring(n), n)), 11 * n - 16)
            for w in range(n):
                self.assertEqual(self.check(band(n, w)), deeds(band(n, w), list(range(n))))
            self.assertEqual(self.check(tree(n, n)), 5 * n - 4)
        for k in range(2, 5):
            self.assertEqual(self.check(mixed(ladder(k), k)), 22 * k - 16)

    def test_whatever_shapes(self):
        random = Random(4)
        for n in (6, 8, 9):
            for much in (0.2, 0.4, 0.6):
                shape = some_shape(random, n, much)
                least = self.check(shape)
                for turn in range(60):
                    self.assertGreaterEqual(deeds(shape, some_order(random, n)), least)

    def test_two_shapes_put_together(self):
        """At common places 0 to c - 1, in both all linked with one another."""
        random = Random(5)
        for a, b, c in ((3, 3, 1), (4, 3, 2), (5, 4, 2), (4, 4, 3), (5, 5, 1), (6, 5, 3), (4, 4, 0), (6, 6, 3)):
            inner = set(combinations(range(c), 2))
            for turn in range(4):
                one = (a, tuple(sorted(set(some_shape(random, a, 0.5)[1]) | inner)))
                other = (b, tuple(sorted(set(some_shape(random, b, 0.5)[1]) | inner)))
                names = {place: place if place < c else place + a - c for place in range(b)}
                whole = (a + b - c, tuple(sorted(set(one[1]) | {(names[i], names[j]) for i, j in other[1]})))
                common = fewest((c, tuple(sorted(inner))))[1] if c else 0
                self.assertEqual(fewest(whole)[1], fewest(one)[1] + fewest(other)[1] - common)

    def test_ten_places_are_refused(self):
        for shape in TEN:
            with self.assertRaises(NoSize):
                fewest(shape)

    def test_arguments_by_name(self):
        self.assertEqual(fewest(shape=(1, ())), ([0], 1))


class ShowsFewest(unittest.TestCase):
    def test_told_worths(self):
        for shape in SOME + [ring(9), band(9, 3), ladder(4), mixed(ring(8), 1)]:
            order = fewest(shape)[0]
            self.assertIs(shows_fewest(shape, order, worths(shape)), True)

    def test_each_order_of_small_shapes(self):
        for shape in SOME + all_shapes(4)[::6]:
            told = worths(shape)
            for order in permutations(range(shape[0])):
                right = deeds_by_count(shape, list(order)) == told[()]
                self.assertIs(shows_fewest(shape, list(order), told), right)

    def test_one_worth_changed(self):
        seen = set()
        for shape in SOME:
            order = fewest(shape)[0]
            for done in rising(shape[0]):
                for more in (-GREAT, -2, -1, 1, 2, 5, GREAT):
                    told = worths(shape)
                    told[done] += more
                    right = shows_by_words(shape, order, told)
                    self.assertIs(shows_fewest(shape, order, told), right, (shape, done, more))
                    seen.add((more > 0, right))
                    if more > 0 or done == ():
                        self.assertFalse(right)
        self.assertEqual(seen, {(True, False), (False, False), (False, True)})

    def test_other_right_worths(self):
        shape = (2, ())
        self.assertIs(shows_fewest(shape, [0, 1], {(): 2, (0,): 1, (1,): 1, (0, 1): 0}), True)
        self.assertIs(shows_fewest(shape, [0, 1], {(): 2, (0,): 1, (1,): 1, (0, 1): -1}), False)
        line = band(3, 1)
        self.assertEqual((worths(line)[()], worths(line)[(1,)], cost(line, (), 1)), (11, 6, 11))
        self.assertIs(shows_fewest(line, [0, 1, 2], {**worths(line), (1,): 0}), True)
        self.assertIs(shows_fewest(line, [0, 1, 2], {**worths(line), (1,): -1}), False)
        for done in rising(3):
            told = worths(line)
            told[done] -= 1
            self.assertIs(shows_fewest(line, [0, 1, 2], told), shows_by_words(line, [0, 1, 2], told))

    def test_the_worth_of_all_is_not_above_nought(self):
        for shape in SOME:
            order = fewest(shape)[0]
            told = {done: worth + 1 for done, worth in worths(shape).items()}
            self.assertIs(shows_fewest(shape, order, told), False)
            worse = max(permutations(range(shape[0])), key=lambda each: deeds(shape, list(each)))
            lift = deeds(shape, list(worse)) - fewest(shape)[1]
            told = {done: worth + lift for done, worth in worths(shape).items()}
            self.assertIs(shows_fewest(shape, list(worse), told), lift == 0)

    def test_a_worth_left_out(self):
        for shape in SOME:
            for done in rising(shape[0]):
                told = worths(shape)
                del told[done]
                self.assertIs(shows_fewest(shape, fewest(shape)[0], told), False)
            self.assertIs(shows_fewest(shape, fewest(shape)[0], {}), False)

    def test_one_more(self):
        for shape in SOME:
            n = shape[0]
            for key in ((n,), (-1,), (0, 0), (1, 0), tuple(range(n + 1)), (0, n), tuple(range(n)) * 2):
                if key in worths(shape):
                    continue
                told = worths(shape)
                told[key] = 0
                self.assertIs(shows_fewest(shape, fewest(shape)[0], told), False)
                for done in rising(n):
                    other = {each: worth for each, worth in told.items() if each != done}
                    self.assertIs(shows_fewest(shape, fewest(shape)[0], other), False)

    def test_worths_of_another_shape(self):
        for shape in SOME:
            for other in SOME:
                order = fewest(shape)[0]
                told = worths(other)
                self.assertIs(shows_fewest(shape, order, told), shows_by_words(shape, order, told))

    def test_what_is_no_order(self):
        for shape in SOME:
            for order in no_orders(shape[0]):
                for told in (worths(shape), {}):
                    with self.assertRaises(NoOrder):
                        shows_fewest(shape, order, told)

    def test_ten_places_are_refused_ahead_of_all(self):
        for shape in TEN:
            for order in [list(range(shape[0]))] + no_orders(shape[0]):
                for told in ({}, {(): 1, (0,): 0}):
                    with self.assertRaises(NoSize):
                        shows_fewest(shape, order, told)

    def test_arguments_by_name(self):
        self.assertIs(shows_fewest(shape=(1, ()), order=[0], worths={(): 1, (0,): 0}), True)


class NothingKept(Owned, unittest.TestCase):
    def test_each(self):
        for shape in SOME:
            self.owned(lambda: worths(shape), [])
            self.owned(lambda: fewest(shape), [])
            self.owned(lambda order, told: shows_fewest(shape, order, told), [fewest(shape)[0], worths(shape)])


if __name__ == "__main__":
    unittest.main()
