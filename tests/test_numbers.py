import unittest
from fractions import Fraction
from math import gcd

from bandwright.errors import NoOver
from bandwright.worlds import World
from samples import FRACTIONS, GREAT, GREAT_TOO, PRIMES, fraction, other_things, told

SMALL = sorted({Fraction(top, bottom) for top in range(-7, 8) for bottom in range(1, 7)})
LARGE = [Fraction(top, bottom) for top in (GREAT, -GREAT, GREAT_TOO, -GREAT_TOO, 1, 0, -6)
         for bottom in (GREAT, GREAT_TOO, 10 ** 299, 12, 1)]


class IsNumber(unittest.TestCase):
    def test_fractions(self):
        for top in range(-12, 13):
            for bottom in range(-12, 13):
                right = bottom >= 1 and gcd(top, bottom) == 1
                self.assertIs(FRACTIONS.is_number((top, bottom)), right, (top, bottom))

    def test_nought_is_told_one_way(self):
        self.assertIs(FRACTIONS.is_number((0, 1)), True)
        for bottom in (0, -1, 2, 7, GREAT, -GREAT):
            self.assertIs(FRACTIONS.is_number((0, bottom)), False, bottom)

    def test_great_fractions(self):
        for number in ((GREAT, GREAT - 1), (-GREAT, GREAT - 1), (1, GREAT), (-GREAT, 1), (2 ** 990, 3 ** 620)):
            self.assertIs(FRACTIONS.is_number(number), True)
        for number in ((GREAT, 3), (GREAT, GREAT), (-GREAT, 9), (1, -GREAT), (GREAT, 0), (6 ** 350, 3 ** 600)):
            self.assertIs(FRACTIONS.is_number(number), False)

    def test_numbers_of_a_wheel(self):
        for prime in PRIMES:
            wheel = World(("wheel", prime))
            for number in range(-3, prime + 4):
                self.assertIs(wheel.is_number(number), 0 <= number < prime, (prime, number))
            for number in (2 * prime, -prime, GREAT, -GREAT, 10 ** 6000):
                self.assertIs(wheel.is_number(number), False)

    def test_numbers_of_another_world(self):
        for number in (0, 1, 2, -1, GREAT):
            self.assertIs(FRACTIONS.is_number(number), False)
        for number in ((0, 1), (1, 1), (1, 2), (3, 2)):
            self.assertIs(World(("wheel", 5)).is_number(number), False)

    def test_anything_else(self):
        for world in (FRACTIONS, World(("wheel", 2)), World(("wheel", 997))):
            for thing in other_things():
                self.assertIs(world.is_number(thing), False, thing)

    def test_lists_are_no_fractions(self):
        self.assertIs(FRACTIONS.is_number([1, 2]), False)


class OfTwo(unittest.TestCase):
    def test_fractions(self):
        for top in range(-20, 21):
            self.assertEqual(FRACTIONS.of(top), (top, 1))
            for bottom in range(-20, 21):
                if bottom != 0:
                    self.assertEqual(FRACTIONS.of(top, bottom), told(Fraction(top, bottom)))

    def test_great_fractions(self):
        for top in (GREAT, -GREAT, 6 ** 350, -6 ** 350, GREAT_TOO, 0, 1):
            self.assertEqual(FRACTIONS.of(top), (top, 1))
            for bottom in (GREAT, -GREAT, 3 ** 620, -3 ** 620, GREAT_TOO, 9, -1):
                number = FRACTIONS.of(top, bottom)
                self.assertEqual(number, told(Fraction(top, bottom)))
                self.assertTrue(FRACTIONS.is_number(number))

    def test_wheels(self):
        for prime in (2, 3, 5, 7, 31, 997):
            wheel = World(("wheel", prime))
            for top in [*range(-40, 41), GREAT, -GREAT]:
                self.assertEqual(wheel.of(top), top % prime)
                for bottom in [*range(-40, 41), GREAT_TOO, -GREAT_TOO]:
                    if bottom % prime != 0:
                        number = wheel.of(top, bottom)
                        self.assertTrue(wheel.is_number(number))
                        self.assertEqual((number * bottom - top) % prime, 0, (prime, top, bottom))

    def test_a_bottom_of_nought_is_refused(self):
        for top in (0, 1, -5, GREAT):
            with self.assertRaises(NoOver):
                FRACTIONS.of(top, 0)
            for prime in (2, 3, 31, 997):
                for bottom in (0, prime, -prime, prime * GREAT, -prime * GREAT_TOO):
                    with self.assertRaises(NoOver):
                        World(("wheel", prime)).of(top, bottom)

    def test_arguments_by_name(self):
        self.assertEqual(FRACTIONS.of(top=4, bottom=-6), (-2, 3))


class Reckoning(unittest.TestCase):
    def same(self, number, value):
        self.assertEqual(number, told(value))
        self.assertIs(type(number), tuple)

    def check_fractions(self, ones, others):
        for one in ones:
            for other in others:
                a = told(one)
                b = told(other)
                self.same(FRACTIONS.plus(a, b), one + other)
                self.same(FRACTIONS.minus(a, b), one - other)
                self.same(FRACTIONS.times(a, b), one * other)
                if other != 0:
                    self.same(FRACTIONS.over(a, b), one / other)

    def test_fractions(self):
        self.check_fractions(SMALL, SMALL)

    def test_great_fractions(self):
        self.check_fractions(LARGE, LARGE)
        self.check_fractions(LARGE, SMALL[::9])
        self.check_fractions(SMALL[::9], LARGE)

    def test_told_numbers_are_numbers(self):
        half = FRACTIONS.of(1, 2)
        self.assertEqual(FRACTIONS.plus(half, half), (1, 1))
        self.assertEqual(FRACTIONS.minus(half, half), (0, 1))
        self.assertEqual(FRACTIONS.times((2, 3), (3, 2)), (1, 1))
        self.assertEqual(FRACTIONS.times((0, 1), (-3, 2)), (0, 1))
        self.assertEqual(FRACTIONS.over((0, 1), (-3, 2)), (0, 1))
        self.assertEqual(FRACTIONS.over((-1, 2), (-3, 4)), (2, 3))
        self.assertEqual(fraction(FRACTIONS.plus((1, 6), (1, 10))), Fraction(4, 15))

    def check_wheel(self, prime, ones, others):
        wheel = World(("wheel", prime))
        for a in ones:
            for b in others:
                self.assertEqual(wheel.plus(a, b), (a + b) % prime)
                self.assertEqual(wheel.minus(a, b), (a - b) % prime)
                self.assertEqual(wheel.times(a, b), (a * b) % prime)
                if b != 0:
                    number = wheel.over(a, b)
                    self.assertTrue(wheel.is_number(number))
                    self.assertEqual(number * b % prime, a)

    def test_small_wheels_whole(self):
        for prime in (2, 3, 5, 7, 11, 13, 31, 61):
            self.check_wheel(prime, range(prime), range(prime))

    def test_great_wheels(self):
        for prime in (499, 991, 997):
            edges = [0, 1, 2, prime // 2, prime - 2, prime - 1]
            self.check_wheel(prime, edges, range(prime))
            self.check_wheel(prime, range(prime), edges)

    def test_over_of_every_wheel(self):
        for prime in PRIMES:
            self.check_wheel(prime, [1], range(prime))

    def test_over_nought_is_refused(self):
        for number in ((1, 1), (0, 1), (-3, 2), (GREAT, 1)):
            with self.assertRaises(NoOver):
                FRACTIONS.over(number, (0, 1))
        for prime in (2, 3, 997):
            for number in (0, 1, prime - 1):
                with self.assertRaises(NoOver):
                    World(("wheel", prime)).over(number, 0)

    def test_arguments_by_name(self):
        wheel = World(("wheel", 7))
        self.assertEqual([wheel.plus(a=5, b=3), wheel.minus(a=5, b=6), wheel.times(a=5, b=3), wheel.over(a=1, b=3)],
                         [1, 6, 1, 5])


if __name__ == "__main__":
    unittest.main()
