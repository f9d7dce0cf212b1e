"""Tuples of so many things: shares, shares that come to one, fractions from nought on."""

from earlystop.fractions import is_fraction, is_share, total

NOUGHT = (0, 1)
ONE = (1, 1)


def is_tuple_of(thing, many):
    return isinstance(thing, tuple) and len(thing) == many


def are_shares(thing, many):
    return is_tuple_of(thing, many) and all([is_share(one) for one in thing])


def are_parts(thing, many):
    return are_shares(thing, many) and total(thing) == ONE


def are_from_nought(thing, many):
    return is_tuple_of(thing, many) and all([is_fraction(one) and one[0] >= 0 for one in thing])
