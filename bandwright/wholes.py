"""Whole numbers: which things are some, and what divides them."""


def is_whole(thing):
    return isinstance(thing, int) and not isinstance(thing, bool)


# The greatest whole number that divides both; of nought and another one it is the other one, without its sign.
def common_divisor(one, other):
    one = abs(one)
    other = abs(other)
    while other > 0:
        left = one % other
        one = other
        other = left
    return one


def is_prime(number):
    divisor = 2
    while divisor * divisor <= number:
        if number % divisor == 0:
            return False
        divisor += 1
    return number >= 2


# Of whole numbers, or of tuples of these, in a list or a tuple.
def is_rising(things):
    return all([one < other for one, other in zip(things, things[1:])])
