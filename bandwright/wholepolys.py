"""Polynomials of whole numbers that stand for numbers of a world: so common divisors of numbers are searched for at
the end alone."""


def whole_trimmed(row):
    many = len(row)
    while many > 0 and row[many - 1] == 0:
        many -= 1
    return row[:many]


def whole_times(one, other):
    told = [0] * max(0, len(one) + len(other) - 1)
    for i, a in enumerate(one):
        for j, b in enumerate(other):
            told[i + j] += a * b
    return told


def whole_less(one, other):
    many = max(len(one), len(other))
    return [a - b for a, b in zip(one + [0] * (many - len(one)), other + [0] * (many - len(other)))]


# Tells (by, left, much): much times the one is by times the other and left. Taken so often, it needs no fractions.
def whole_parted(world, one, other):
    lead = other[-1]
    left = one
    by = []
    much = 1
    for place in range(len(one) - len(other), -1, -1):
        head = left[-1]
        less = [0] * place + [head * number for number in other[:-1]]
        left = world.evenly([lead * a - b for a, b in zip(left, less)], 1)
        by = world.evenly([head] + [lead * number for number in by], 1)
        much = world.evenly([much * lead], 1)[0]
    return (by, left, much)


def power(number, times):
    told = 1
    for turn in range(times):
        told *= number
    return told


def next_part(world, last, now, by, much, least):
    left = whole_less([much * number for number in last], whole_times(by, now))
    return whole_trimmed(world.evenly(left, least))


# Euclid's way, keeping with each row how often it has the one and the other in it: tells such three rows, the first
# the longest that divides both, but for some number. The rows are parted by what is known to divide all three of them
# (Collins and Brown: they are made of determinants), which keeps their numbers short.
def whole_common(world, one, other):
    last = [one, [1], []]
    now = [other, [], [1]]
    if len(one) < len(other):
        last = [other, [], [1]]
        now = [one, [1], []]
    lead = 1
    height = 1
    while len(now[0]) > 0:
        gap = len(last[0]) - len(now[0])
        told = whole_parted(world, last[0], now[0])
        least = lead * power(height, gap)
        following = [next_part(world, a, b, told[0], told[2], least) for a, b in zip(last[1:], now[1:])]
        last = now
        now = [whole_trimmed(world.evenly(told[1], least))] + following
        lead = last[0][-1]
        height = world.evenly([power(lead, gap)], power(height, gap - 1))[0]
    return last
