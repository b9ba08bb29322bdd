"""Worlds and things that several tests ask about."""

from fractions import Fraction

from bandwright.worlds import World

PRIMES = [p for p in range(2, 998) if all(p % d for d in range(2, p))]
GREAT = 10 ** 300 - 1
GREAT_TOO = 10 ** 299 + 7
FRACTIONS = World(("fractions",))


class Plain:
    pass


def other_things():
    """Things that are no number of any world, and no table of one."""
    endless = []
    endless.append(endless)
    return [
        None, True, False, "", "1", "nought", b"1", 1.0, 0.0, float("nan"), float("inf"), 1j, Fraction(1, 2),
        [], [1], [1, 2], [(1, 2)], {}, {1: 2}, {0: 0, 1: 1}, {"a": 1}, set(), {1, 2}, frozenset([1, 2]), range(2),
        (), (1,), (1, 2, 3), (1, 1, 1), (True, 1), (1, True), (False, True), (0, False), ("1", "2"), ("1", 1),
        (1, "1"), (None, 1), (1, None), (1.0, 1), (1, 2.0), ((1, 2), 3), (1, (2, 3)), ((1, 2), (3, 4)), ([1], [2]),
        object(), Plain(), Plain, int, len, lambda: 1, Ellipsis, NotImplemented, endless, (endless, endless), iter([1]),
        FRACTIONS, ValueError("1"), bytearray(b"1"), memoryview(b"12"), slice(1, 2),
    ]


def fraction(number):
    return Fraction(number[0], number[1])


def told(value):
    """The number of the fractions that a Fraction is."""
    value = Fraction(value)
    return (value.numerator, value.denominator)
