"""Aims and prices of a trial."""

from earlystop.kinds import NOUGHT, are_from_nought, are_parts, are_shares, is_tuple_of
from earlystop.trials import ways_of
from earlystop.wholes import is_whole


def is_aim(trial, thing):
    if not is_tuple_of(thing, 4) or not is_whole(thing[0]) or thing[0] < 0:
        return False
    ways = ways_of(trial)
    return are_shares(thing[1], ways) and are_parts(thing[2], ways) and are_from_nought(thing[3], thing[0])


def are_prices(trial, thing):
    return are_from_nought(thing, ways_of(trial))


def without_costs(aim):
    return (aim[0], aim[1], aim[2], tuple([NOUGHT for one in aim[3]]))
