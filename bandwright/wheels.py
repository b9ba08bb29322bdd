"""The numbers of a wheel: the remainders of a prime, 0 to the prime less one."""

from bandwright.errors import NoOver
from bandwright.wholes import is_whole


def is_remainder(prime, thing):
    return is_whole(thing) and 0 <= thing < prime


# Euclid's way, keeping with each remainder how many times the number it is: where it comes down to one, that many
# times the number is one.
def remainder_back(prime, number):
    if number == 0:
        raise NoOver("a number over nought")
    last = prime
    last_times = 0
    now = number
    now_times = 1
    while now > 1:
        fits = last // now
        left = last - fits * now
        left_times = last_times - fits * now_times
        last = now
        last_times = now_times
        now = left
        now_times = left_times
    return now_times % prime


def remainder_over(prime, a, b):
    return a * remainder_back(prime, b) % prime
