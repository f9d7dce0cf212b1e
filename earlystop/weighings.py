"""All that hangs on counts, by whole numbers: each way's weights and what looking on costs there."""

from earlystop.fractions import times, total
from earlystop.kinds import NOUGHT, ONE
from earlystop.looks import all_counts, ones_more, weight
from earlystop.rules import LOOKS_ON
from earlystop.trials import faces_of, ways_of
from earlystop.wholes import common_divisor


class Weighing:
    def __init__(self, trial, aim):
        self.rising = all_counts(faces_of(trial), aim[0])
        # Each way has a unit of its own, in which its bound is whole too: one for all would make the numbers long.
        self.units = []
        self.weights = []
        for way in range(ways_of(trial)):
            weights = [weight(trial, way, counts) for counts in self.rising]
            self.units.append(common_lower(weights + [aim[1][way]]))
            self.weights.append(in_units(self.rising, weights, self.units[way]))
        ahead = [counts for counts in self.rising if sum(counts) < aim[0]]
        costs = [look_cost(trial, aim, counts) for counts in ahead]
        self.cost_unit = common_lower(costs)
        self.costs = in_units(ahead, costs, self.cost_unit)


def common_lower(some):
    """The least whole number that each one's lower number divides."""
    lower = 1
    for one in some:
        lower = lower * (one[1] // common_divisor(lower, one[1]))
    return lower


def times_whole(one, unit):
    return one[0] * (unit // one[1])


def in_units(rising, some, unit):
    table = {}
    for counts, one in zip(rising, some):
        table[counts] = times_whole(one, unit)
    return table


def look_cost(trial, aim, counts):
    met = [times(aim[2][way], weight(trial, way, counts)) for way in range(ways_of(trial))]
    return times(aim[3][sum(counts)], total(met))


def weights_at(weighing, counts):
    return [table[counts] for table in weighing.weights]


def best_places(weighing, factors, cost_factor):
    """What is best at each counts, LOOKS_ON or 1 + way, and the sum that comes of it at the noughts.

    Each way's weights are taken so many times as its factor tells, and the costs as theirs.
    """
    best_at = {}
    worth_of = {}
    for counts in reversed(weighing.rising):
        dues = [factor * one for factor, one in zip(factors, weights_at(weighing, counts))]
        sums = [sum(dues) - due for due in dues]
        best_at[counts] = 1 + sums.index(min(sums))
        worth_of[counts] = min(sums)
        if counts in weighing.costs:
            onward = cost_factor * weighing.costs[counts] + sum([worth_of[more] for more in ones_more(counts)])
            if onward < worth_of[counts]:
                best_at[counts] = LOOKS_ON
                worth_of[counts] = onward
    return (best_at, worth_of[weighing.rising[0]])


def column_by(weighing, best_at):
    """What a plain rule by these places costs and, for each way, how often it is wrong, by the units."""
    amount_of = {weighing.rising[0]: 1}
    cost = 0
    right = [0 for unit in weighing.units]
    for counts in weighing.rising:
        amount = amount_of.get(counts, 0)
        place = best_at[counts]
        if place == LOOKS_ON:
            cost = cost + amount * weighing.costs[counts]
            for more in ones_more(counts):
                amount_of[more] = amount_of.get(more, 0) + amount
        else:
            right[place - 1] = right[place - 1] + amount * weighing.weights[place - 1][counts]
    return (cost, [unit - one for unit, one in zip(weighing.units, right)])


def plain_table(weighing, best_at):
    ways = len(weighing.units)
    table = {}
    for counts in weighing.rising:
        table[counts] = tuple([ONE if place == best_at[counts] else NOUGHT for place in range(1 + ways)])
    return table
