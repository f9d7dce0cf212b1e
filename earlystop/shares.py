"""What is told of a rule and a trial: what it says, when it ends, what it costs, how often it is wrong."""

from earlystop.amounts import amounts
from earlystop.fractions import is_less, less, times, total
from earlystop.kinds import ONE
from earlystop.looks import weight
from earlystop.rules import looks_on, most_of
from earlystop.trials import ways_of


def comings(trial, rule, way):
    """For each entry (counts, says, the share with which a thing of that way comes to them)."""
    found = []
    for entry, amount in zip(rule, amounts(rule)):
        found.append((entry[0], entry[1], times(amount[1], weight(trial, way, entry[0]))))
    return found


def said(trial, rule, way):
    came = comings(trial, rule, way)
    return tuple([said_of(came, other) for other in range(ways_of(trial))])


def said_of(came, way):
    return total([times(share, says[1 + way]) for counts, says, share in came])


def ended(trial, rule, way):
    came = comings(trial, rule, way)
    return tuple([ended_behind(came, looks) for looks in range(most_of(rule) + 1)])


def ended_behind(came, looks):
    return total([times(share, less(ONE, says[0])) for counts, says, share in came if sum(counts) == looks])


def onwards(trial, rule, way):
    """For each counts at which it may look on (how many they are, the share with which it looks on there)."""
    came = comings(trial, rule, way)
    return [(sum(counts), times(share, says[0])) for counts, says, share in came if looks_on(says)]


def average(trial, rule, way):
    return total([share for looks, share in onwards(trial, rule, way)])


def spent(trial, rule, way, costs):
    return total([times(costs[looks], share) for looks, share in onwards(trial, rule, way)])


def wrong(trial, rule):
    found = []
    for way in range(ways_of(trial)):
        found.append(less(ONE, said_of(comings(trial, rule, way), way)))
    return tuple(found)


def cost(trial, rule, aim):
    mix = aim[2]
    return total([times(mix[way], spent(trial, rule, way, aim[3])) for way in range(ways_of(trial))])


def keeps(trial, rule, aim):
    return all([not is_less(bound, share) for bound, share in zip(aim[1], wrong(trial, rule))])
