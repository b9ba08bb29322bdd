import unittest

from bandwright.errors import NoWorld
from bandwright.worlds import World
from samples import GREAT, PRIMES


class Worlds(unittest.TestCase):
    def refuse(self, told):
        with self.assertRaises(NoWorld):
            World(told)

    def test_fractions(self):
        self.assertEqual(World(("fractions",)).told(), ("fractions",))

    def test_the_wheels_are_those_of_the_primes_to_997(self):
        self.assertEqual((PRIMES[0], PRIMES[-1], len(PRIMES)), (2, 997, 168))
        for number in range(-30, 1200):
            if number in PRIMES:
                told = World(("wheel", number)).told()
                self.assertEqual(told, ("wheel", number))
                self.assertIs(type(told), tuple)
            else:
                self.refuse(("wheel", number))

    def test_primes_beyond_are_refused(self):
        for number in (1009, 1013, 7919, 104729, 2 ** 31 - 1, 2 ** 61 - 1, 2 ** 127 - 1):
            self.refuse(("wheel", number))

    def test_very_great_numbers_are_refused(self):
        for number in (GREAT, -GREAT, 10 ** 300, 2 ** 607 - 1, 10 ** 6000 + 1, -10 ** 6000):
            self.refuse(("wheel", number))

    def test_primes_below_nought_are_refused(self):
        for prime in PRIMES:
            self.refuse(("wheel", -prime))

    def test_other_texts_are_refused(self):
        for text in ("", "fraction", "Fractions", "FRACTIONS", "fractions ", " fractions", "wheels", "Wheel", "7",
                     "reals", "wheel\n", "f"):
            self.refuse((text,))
            self.refuse((text, 7))
            self.refuse((text, 0))

    def test_fractions_with_a_number_are_refused(self):
        for number in (0, 1, 2, 7, -1, 997, GREAT):
            self.refuse(("fractions", number))

    def test_a_wheel_without_a_number_is_refused(self):
        self.refuse(("wheel",))

    def test_argument_by_name(self):
        self.assertEqual(World(told=("wheel", 5)).told(), ("wheel", 5))

    def test_worlds_stand_beside_one_another(self):
        one = World(("wheel", 5))
        other = World(("wheel", 7))
        third = World(("fractions",))
        self.assertEqual([one.plus(4, 4), other.plus(4, 4)], [3, 1])
        self.assertEqual([each.told() for each in (one, other, third)],
                         [("wheel", 5), ("wheel", 7), ("fractions",)])


if __name__ == "__main__":
    unittest.main()
