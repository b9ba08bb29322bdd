import unittest
from itertools import combinations, product
from random import Random

from bandwright.errors import NoShape
from bandwright.fewest import fewest
from bandwright.named import best, named
from bandwright.orders import deeds
from bandwright.perfect import is_perfect
from bandwright.shapes import is_shape, triangles
from oracles import Owned, deeds_by_count
from samples import GREAT, GREAT_TOO

SIZES = (1, 2, 3, 4, 5, 8, 9, 10, 31, 58, 59, 60)
BANDS = [(name, n, w) for name in ("band", "brim") for n in SIZES for w in sorted({0, 1, 2, 5, n // 2, n - 2, n - 1})
         if 0 <= w < n]
RINGS = [("ring", n) for n in SIZES[2:]]
LADDERS = [("ladder", k) for k in (1, 2, 3, 4, 5, 15, 29, 30)]


def some_tree(n, seed):
    random = Random(f"{n} {seed}")
    return ("tree", tuple(random.randrange(place) for place in range(1, n)))


SMALL_TREES = [("tree", aheads) for n in range(1, 6) for aheads in product(*[range(place) for place in range(1, n)])]
TREES = SMALL_TREES + [some_tree(n, seed) for n in SIZES for seed in (1, 2)] + [
    ("tree", tuple(range(59))), ("tree", (0,) * 59), ("tree", ())]
ALL = BANDS + RINGS + LADDERS + TREES


def size_by_words(told):
    return {"tree": lambda: len(told[1]) + 1, "ladder": lambda: 2 * told[1]}.get(told[0], lambda: told[1])()


def linked_by_words(told, i, j):
    """Of two unlike places, whichever is the greater."""
    n = size_by_words(told)
    if told[0] == "band":
        return abs(i - j) <= told[2]
    if told[0] == "brim":
        return abs(i - j) <= told[2] or n - 1 in (i, j)
    if told[0] == "ring":
        return (i + 1) % n == j or (j + 1) % n == i
    if told[0] == "tree":
        return (i > 0 and told[1][i - 1] == j) or (j > 0 and told[1][j - 1] == i)
    return (abs(i - j) == 1 and i // 2 == j // 2) or abs(i - j) == 2


def unknown():
    """Tuples of a text, and whole numbers or a tuple of such, that tell no shape."""
    texts = ("", "Band", "bands", "BAND", "band ", "rings", "tre", "star", "ladders", "fractions", "wheel")
    found = [(text,) + rest for text in texts for rest in ((), (3,), (3, 1), ((0, 0),), ((),), (GREAT,))]
    names = ("band", "brim", "ring", "tree", "ladder")
    found += [(name,) for name in names]
    found += [(name, 3, 1, 1) for name in names] + [(name, 3, 1, 1, 1) for name in names]
    found += [(name, n) for name in ("band", "brim") for n in (1, 3, 60)]
    found += [(name, 3, 1) for name in ("ring", "ladder", "tree")]
    sizes = (0, -1, -3, 61, 62, 100, GREAT, -GREAT)
    for name in ("band", "brim"):
        found += [(name, n, w) for n in sizes for w in (0, 1, -1, 60, GREAT)]
        found += [(name, n, w) for n in (1, 2, 3, 60) for w in (-1, -2, n, n + 1, GREAT, -GREAT, -n)]
        found += [(name, (3,), 1), (name, 3, (1,)), (name, (3,), (1,)), (name, (), 0), (name, 1, ()), (name, (0, 0))]
        found += [(name, ()), (name, (3, 1))]
    found += [("ring", n) for n in sizes + (1, 2, -4)] + [("ring", (3,)), ("ring", ()), ("ring", (0, 0))]
    found += [("ladder", k) for k in (0, -1, -15, 31, 32, 60, GREAT, -GREAT, GREAT_TOO)]
    found += [("ladder", (1,)), ("ladder", ()), ("ladder", (0,))]
    found += [("tree", n) for n in (0, 1, 3, 60, -1, GREAT)]
    found += [("tree", aheads) for aheads in (
        (1,), (-1,), (2,), (0, 2), (0, 3), (0, -1), (1, 0), (0, 0, 3), (0, 1, 2, 4), (0, GREAT), (-GREAT,), (0, 1, -2),
        (0,) * 60, (0,) * 61, (0,) * 1000, tuple(range(60)), tuple(range(58)) + (59,), tuple(range(1, 60)))]
    found += [("tree", (), 0), ("tree", (), ()), ("tree", (0,), (0,)), ("tree", 0, 1), ("ring", 3, 3), ("ladder", 1, 1)]
    return found


class Named(unittest.TestCase):
    def test_by_hand(self):
        self.assertEqual(named(("band", 4, 2)), (4, ((0, 1), (0, 2), (1, 2), (1, 3), (2, 3))))
        self.assertEqual(named(("brim", 4, 1)), (4, ((0, 1), (0, 3), (1, 2), (1, 3), (2, 3))))
        self.assertEqual(named(("brim", 4, 0)), (4, ((0, 3), (1, 3), (2, 3))))
        self.assertEqual(named(("ring", 4)), (4, ((0, 1), (0, 3), (1, 2), (2, 3))))
        self.assertEqual(named(("ring", 3)), (3, ((0, 1), (0, 2), (1, 2))))
        self.assertEqual(named(("tree", (0, 0, 2))), (4, ((0, 1), (0, 2), (2, 3))))
        self.assertEqual(named(("ladder", 1)), (2, ((0, 1),)))
        self.assertEqual(named(("ladder", 2)), (4, ((0, 1), (0, 2), (1, 3), (2, 3))))
        for told in (("band", 1, 0), ("brim", 1, 0), ("tree", ())):
            self.assertEqual(named(told), (1, ()))

    def test_just_the_links_that_are_told(self):
        for told in ALL:
            shape = named(told)
            self.assertIs(is_shape(shape), True, told)
            self.assertEqual(shape[0], size_by_words(told))
            links = [(i, j) for i, j in combinations(range(shape[0]), 2) if linked_by_words(told, i, j)]
            self.assertEqual(list(shape[1]), links, told)

    def test_every_band_of_few_places(self):
        for n in range(1, 10):
            for w in range(n):
                self.assertEqual(len(named(("band", n, w))[1]), sum(min(w, n - 1 - place) for place in range(n)))
                ends = sum(1 for place in range(n - 1) if n - 1 - place > w)
                self.assertEqual(len(named(("brim", n, w))[1]), len(named(("band", n, w))[1]) + ends)

    def test_what_tells_no_shape(self):
        for told in unknown():
            with self.assertRaises(NoShape, msg=told):
                named(told)

    def test_truths_are_no_whole_numbers(self):
        for told in (("band", True, False), ("band", 3, True), ("band", True, 0), ("brim", 3, False), ("ladder", True),
                     ("tree", (False,)), ("tree", (0, True)), ("tree", True), ("ring", True)):
            for ask in (named, best):
                with self.assertRaises(NoShape, msg=told):
                    ask(told)

    def test_other_things(self):
        for told in ((), ["ring", 3], "ring", None, ("tree", [0]), ("ring", "3"), (3, "ring"), ("ring", None)):
            for ask in (named, best):
                with self.assertRaises(NoShape, msg=told):
                    ask(told)

    def test_argument_by_name(self):
        self.assertEqual(named(told=("ladder", 1)), (2, ((0, 1),)))


class Best(unittest.TestCase):
    def check(self, told):
        came = best(told)
        self.assertIs(type(came), tuple)
        self.assertEqual(len(came), 2)
        self.assertIs(type(came[0]), list)
        self.assertIs(type(came[1]), int)
        shape = named(told)
        self.assertEqual(sorted(came[0]), list(range(shape[0])))
        self.assertEqual(deeds(shape, came[0]), came[1], told)
        return shape, came

    def test_bands_brims_and_trees(self):
        for told in BANDS + TREES:
            shape, came = self.check(told)
            self.assertEqual(came[1], 4 * len(shape[1]) + 2 * triangles(shape) + shape[0], told)
            self.assertTrue(is_perfect(shape, came[0]))

    def test_rings(self):
        for told in RINGS:
            self.assertEqual(self.check(told)[1][1], 11 * told[1] - 16)
        self.assertEqual(best(("ring", 3))[1], 17)
        self.assertEqual(best(("ring", 60))[1], 644)

    def test_ladders(self):
        for told in LADDERS:
            self.assertEqual(self.check(told)[1][1], 22 * told[1] - 16)
        self.assertEqual(best(("ladder", 1))[1], 6)
        self.assertEqual(best(("ladder", 30))[1], 644)

    def test_no_order_of_small_ones_has_fewer(self):
        small = [("band", 9, 3), ("brim", 9, 2), ("ring", 8), ("ring", 9), ("ladder", 4), some_tree(9, 3)]
        for told in [told for told in ALL if size_by_words(told) <= 5] + small:
            self.assertEqual(best(told)[1], fewest(named(told))[1], told)

    def test_deeds_by_walks(self):
        for told in (("band", 12, 3), ("brim", 12, 3), ("ring", 12), ("ladder", 6), some_tree(12, 5)):
            order, many = best(told)
            self.assertEqual(deeds_by_count(named(told), order), many)

    def test_what_tells_no_shape(self):
        for told in unknown():
            with self.assertRaises(NoShape, msg=told):
                best(told)

    def test_argument_by_name(self):
        self.assertEqual(best(told=("band", 1, 0)), ([0], 1))


class NothingKept(Owned, unittest.TestCase):
    def test_best(self):
        for told in (("band", 5, 2), ("brim", 5, 1), ("ring", 5), ("ladder", 3), ("tree", (0, 1, 0)), ("tree", ())):
            self.owned(lambda: best(told), [])


if __name__ == "__main__":
    unittest.main()
