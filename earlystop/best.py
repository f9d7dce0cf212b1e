"""Best rules for prices: plain ones that are priced just at the worth of the noughts."""

from earlystop.fractions import times
from earlystop.rules import rule_within
from earlystop.trials import faces_of
from earlystop.weighings import Weighing, best_places, common_lower, plain_table, times_whole


def best_rule(trial, aim, prices):
    weighing = Weighing(trial, aim)
    parts = [times(price, (1, unit)) for price, unit in zip(prices, weighing.units)]
    parts.append((1, weighing.cost_unit))
    unit = common_lower(parts)
    factors = [times_whole(part, unit) for part in parts]
    best_at = best_places(weighing, factors[:-1], factors[-1])[0]
    return rule_within(faces_of(trial), plain_table(weighing, best_at))


def best_bounds(trial, aim, prices):
    # Of places that are worth the same the first way goes ahead of the second one, and both ahead of looking on: so
    # with more of the second face it never says the first way again, and it comes to no counts that no way shows.
    return best_rule(trial, aim, prices)
