"""The numbers of the fractions: tuples (top, bottom) with no common divisor, bottom from 1 on."""

from bandwright.errors import NoOver
from bandwright.wholes import common_divisor, is_whole


def is_ratio(thing):
    if not isinstance(thing, tuple) or len(thing) != 2:
        return False
    if not is_whole(thing[0]) or not is_whole(thing[1]):
        return False
    return thing[1] >= 1 and common_divisor(thing[0], thing[1]) == 1


def ratio(top, bottom):
    if bottom == 0:
        raise NoOver("a number over nought")
    shared = common_divisor(top, bottom)
    if bottom < 0:
        shared = -shared
    return (top // shared, bottom // shared)


# Divisors are looked for among the bottoms first: where these have none, the sum has none either, and the long
# numbers that come of the products are never searched.
def ratio_plus(a, b):
    shared = common_divisor(a[1], b[1])
    if shared == 1:
        return (a[0] * b[1] + b[0] * a[1], a[1] * b[1])
    top = a[0] * (b[1] // shared) + b[0] * (a[1] // shared)
    again = common_divisor(top, shared)
    return (top // again, (a[1] // shared) * (b[1] // again))


def ratio_minus(a, b):
    return ratio_plus(a, (-b[0], b[1]))


# Only a top and the other bottom can have a divisor in common, so the products need no search of their own.
def ratio_times(a, b):
    first = common_divisor(a[0], b[1])
    second = common_divisor(b[0], a[1])
    return ((a[0] // first) * (b[0] // second), (a[1] // second) * (b[1] // first))


def ratio_over(a, b):
    if b[0] == 0:
        raise NoOver("a number over nought")
    if b[0] < 0:
        return ratio_times(a, (-b[1], -b[0]))
    return ratio_times(a, (b[1], b[0]))


# The row as whole numbers over one bottom, the least that all of them have in common.
def one_bottom(row):
    bottom = 1
    for number in row:
        bottom = bottom // common_divisor(bottom, number[1]) * number[1]
    return ([number[0] * (bottom // number[1]) for number in row], bottom)
