"""Words of lines: counts and fractions written, and so many of them read, None where they can't be."""

from earlystop.errors import NoFraction
from earlystop.fractions import read_fraction, shown_fraction
from earlystop.wholes import read_whole, shown_whole


def shown_counts(counts):
    return [shown_whole(count) for count in counts]


def shown_fractions(some):
    return [shown_fraction(one) for one in some]


def read_counts(words, many):
    numbers = [read_whole(word) for word in words]
    if len(numbers) != many or not all([number is not None and number >= 0 for number in numbers]):
        return None
    return tuple(numbers)


def read_fractions(words, many):
    if len(words) != many:
        return None
    try:
        return tuple([read_fraction(word) for word in words])
    except NoFraction:
        return None
