"""Fractions: tuples (n, d) in lowest terms, d from 1 on."""

from earlystop.errors import NoFraction
from earlystop.wholes import common_divisor, is_whole, read_whole, shown_whole


def is_fraction(thing):
    if not isinstance(thing, tuple) or len(thing) != 2:
        return False
    if not is_whole(thing[0]) or not is_whole(thing[1]):
        return False
    return thing[1] >= 1 and common_divisor(thing[0], thing[1]) == 1


def is_share(thing):
    return is_fraction(thing) and 0 <= thing[0] <= thing[1]


def fraction(n, d):
    if d == 0:
        raise NoFraction("divided by nought")
    divisor = common_divisor(n, abs(d))
    if d < 0:
        divisor = -divisor
    return (n // divisor, d // divisor)


def plus(one, other):
    # Only divisors of the lower numbers' common divisor can be left to take out:
    # looking for them there keeps long sums quick.
    common = common_divisor(one[1], other[1])
    one_part = one[1] // common
    other_part = other[1] // common
    upper = one[0] * other_part + other[0] * one_part
    left = common_divisor(upper, common)
    return (upper // left, one_part * (other[1] // left))


def less(one, other):
    return plus(one, (-other[0], other[1]))


def times(one, other):
    # Both being lowest, only an upper number and the other's lower one can have a divisor in common.
    first = common_divisor(one[0], other[1])
    second = common_divisor(other[0], one[1])
    return ((one[0] // first) * (other[0] // second), (one[1] // second) * (other[1] // first))


def over(one, other):
    if other[0] == 0:
        raise NoFraction("divided by nought")
    if other[0] < 0:
        return times(one, (-other[1], -other[0]))
    return times(one, (other[1], other[0]))


def is_less(one, other):
    return one[0] * other[1] < other[0] * one[1]


def total(some):
    whole = (0, 1)
    for one in some:
        whole = plus(whole, one)
    return whole


def least_place(some):
    place = 0
    for k in range(1, len(some)):
        if is_less(some[k], some[place]):
            place = k
    return place


def shown_fraction(one):
    if one[1] == 1:
        return shown_whole(one[0])
    return shown_whole(one[0]) + "/" + shown_whole(one[1])


def read_fraction(text):
    numbers = [read_whole(part) for part in text.split("/")]
    if len(numbers) == 1:
        numbers.append(1)
    elif numbers[1] == 1:
        raise NoFraction("a whole number has no / behind it")
    read = tuple(numbers)
    if not is_fraction(read):
        raise NoFraction("the text writes no fraction")
    return read
