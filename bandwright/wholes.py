"""Whole numbers: which things are some, and what divides them."""


# In bits: what counts as a long number, and how much of it is looked at.
LONG = 2048
LOOK = 512


def is_whole(thing):
    return isinstance(thing, int) and not isinstance(thing, bool)


# Two long numbers that divide by just what these two divide by. Euclid's way is gone as far as their highest bits tell
# it, on these alone, keeping how often each number is in what comes of them (Lehmer). These counts could be undone, so
# nothing in common is won or lost, even where the bits left out would have told otherwise.
def shortened(one, other):
    last = one >> (one.bit_length() - LOOK)
    now = other >> (one.bit_length() - LOOK)
    last_ones = 1
    last_others = 0
    now_ones = 0
    now_others = 1
    while 2 * now.bit_length() > LOOK:
        fits = last // now
        left = last - fits * now
        left_ones = last_ones - fits * now_ones
        left_others = last_others - fits * now_others
        last = now
        last_ones = now_ones
        last_others = now_others
        now = left
        now_ones = left_ones
        now_others = left_others
    return (abs(last_ones * one + last_others * other), abs(now_ones * one + now_others * other))


# The greatest whole number that divides both; of nought and another one it is the other one, without its sign.
def common_divisor(one, other):
    one = abs(one)
    other = abs(other)
    while other > 0:
        left = one % other
        one = other
        other = left
        if one.bit_length() > LONG:
            shorter = shortened(one, other)
            one = shorter[0]
            other = shorter[1]
    return one


def is_prime(number):
    divisor = 2
    while divisor * divisor <= number:
        if number % divisor == 0:
            return False
        divisor += 1
    return number >= 2


# Of whole numbers, or of tuples of these, in a list or a tuple.
def is_rising(things):
    return all([one < other for one, other in zip(things, things[1:])])
