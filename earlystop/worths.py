"""Worths of counts by prices for wrong words, from the last counts backwards, and what a rule is priced at."""

from earlystop.fractions import least_place, less, plus, times, total
from earlystop.looks import all_counts, ones_more, weight
from earlystop.shares import cost, wrong
from earlystop.trials import faces_of, ways_of


def worths(trial, aim, prices):
    rising = all_counts(faces_of(trial), aim[0])
    worth_of = {}
    for counts in reversed(rising):
        sums = sums_at(trial, aim, prices, counts, worth_of)
        worth_of[counts] = sums[least_place(sums)]
    return tuple([(counts, worth_of[counts]) for counts in rising])


def sums_at(trial, aim, prices, counts, worth_of):
    """What stopping with each way is worth at counts, then, below the most, looking on by the worths behind."""
    weights = [weight(trial, way, counts) for way in range(ways_of(trial))]
    dues = [times(price, one) for price, one in zip(prices, weights)]
    all_dues = total(dues)
    sums = [less(all_dues, due) for due in dues]
    looks = sum(counts)
    if looks < aim[0]:
        met = total([times(share, one) for share, one in zip(aim[2], weights)])
        worths_behind = total([worth_of[more] for more in ones_more(counts)])
        sums.append(plus(times(aim[3][looks], met), worths_behind))
    return sums


def priced(trial, rule, aim, prices):
    dues = [times(price, share) for price, share in zip(prices, wrong(trial, rule))]
    return plus(cost(trial, rule, aim), total(dues))
