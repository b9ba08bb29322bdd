"""Worlds of numbers: the fractions, and the wheels of a prime."""

from bandwright.errors import NoWorld
from bandwright.ratios import is_ratio, one_bottom, ratio, ratio_minus, ratio_over, ratio_plus, ratio_times
from bandwright.wheels import is_remainder, remainder_over
from bandwright.wholes import is_prime, is_whole

GREATEST_PRIME = 997


def is_fractions(told):
    return isinstance(told, tuple) and len(told) == 1 and told[0] == "fractions"


# The bounds are asked ahead of the prime, so that a very great number isn't searched for divisors.
def is_wheel(told):
    if not isinstance(told, tuple) or len(told) != 2 or told[0] != "wheel":
        return False
    return is_whole(told[1]) and 2 <= told[1] <= GREATEST_PRIME and is_prime(told[1])


class World:
    # The error's words leave out what was told: Python refuses to write out a very great number.
    def __init__(self, told):
        if is_fractions(told):
            self.prime = None
        elif is_wheel(told):
            self.prime = told[1]
        else:
            raise NoWorld("a world is the fractions, or the wheel of a prime from 2 to 997")

    def told(self):
        if self.prime is None:
            return ("fractions",)
        return ("wheel", self.prime)

    def is_number(self, thing):
        if self.prime is None:
            return is_ratio(thing)
        return is_remainder(self.prime, thing)

    def of(self, top, bottom=1):
        if self.prime is None:
            return ratio(top, bottom)
        return remainder_over(self.prime, top % self.prime, bottom % self.prime)

    def plus(self, a, b):
        if self.prime is None:
            return ratio_plus(a, b)
        return (a + b) % self.prime

    def minus(self, a, b):
        if self.prime is None:
            return ratio_minus(a, b)
        return (a - b) % self.prime

    def times(self, a, b):
        if self.prime is None:
            return ratio_times(a, b)
        return a * b % self.prime

    def over(self, a, b):
        if self.prime is None:
            return ratio_over(a, b)
        return remainder_over(self.prime, a, b)

    # A row as whole numbers and a bottom that all of them have.
    def as_wholes(self, row):
        if self.prime is None:
            return one_bottom(row)
        return (list(row), 1)

    # Whole numbers over another one, where it is known that this comes out even among the fractions. So long numbers
    # stay whole, and common divisors needn't be searched for at each step.
    def evenly(self, row, by):
        if self.prime is None:
            return [number // by for number in row]
        back = self.of(1, by)
        return [number * back % self.prime for number in row]
