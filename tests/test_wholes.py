import math
import unittest
from random import Random

from bandwright.wholes import common_divisor, is_prime, is_rising, is_whole
from samples import GREAT, PRIMES, other_things

LENGTHS = (0, 1, 5, 60, 500, 2040, 2047, 2048, 2049, 2060, 3000, 5000, 20000)


class Wholes(unittest.TestCase):
    def check(self, one, other):
        for first, second in ((one, other), (other, one), (-one, other), (one, -other), (-other, -one)):
            self.assertEqual(common_divisor(first, second), math.gcd(one, other))

    def test_divisors_of_short_numbers(self):
        for one in range(40):
            for other in range(40):
                self.check(one, other)

    def test_divisors_of_numbers_of_all_lengths(self):
        random = Random(1)
        for length in LENGTHS:
            for more in LENGTHS:
                one, other, both = random.getrandbits(length), random.getrandbits(more), random.getrandbits(100) + 1
                self.check(one, other)
                self.check(one * both, other * both)

    def test_divisors_where_one_is_made_of_the_other(self):
        random = Random(2)
        for length in LENGTHS:
            other = random.getrandbits(length)
            for more in (1, 20, 3000):
                for less in (0, 1, -1, 10 ** 300):
                    self.check(other * random.getrandbits(more) + less, other)
            self.check(other, other)
            self.check(other, other + 1)
            self.check(GREAT ** 9, GREAT ** 7 * other)

    def test_divisors_of_numbers_with_long_rows_of_like_bits(self):
        for length in LENGTHS:
            for more in LENGTHS:
                for less in (0, 1):
                    self.check(2 ** length - less, 2 ** more - 1)
                    self.check(2 ** length - less, 2 ** more)

    def test_the_longest_way(self):
        one, other = 1, 1
        for turn in range(6000):
            one, other = other, one + other
        self.check(one, other)
        self.check(one * 30, other * 42)

    def test_other_questions(self):
        self.assertEqual([number for number in range(-3, 998) if is_prime(number)], PRIMES)
        self.assertTrue(is_whole(GREAT) and is_whole(-GREAT) and is_whole(0))
        self.assertFalse(any(is_whole(thing) for thing in other_things()))
        for things, rising in (([], True), ([1], True), ([1, 2], True), ([1, 1], False), ([2, 1], False), ((1, 3, 2), False),
                               (((0, 1), (0, 2)), True), (((0, 2), (0, 1)), False)):
            self.assertIs(is_rising(things), rising)


if __name__ == "__main__":
    unittest.main()
