"""The least cost at which bounds can be kept: a paper with a rule that has it, or one that none keeps them."""

from earlystop.aims import without_costs
from earlystop.fractions import fraction
from earlystop.masters import Master, one_among
from earlystop.mixing import mixed
from earlystop.rules import rule_within
from earlystop.shares import cost
from earlystop.trials import faces_of
from earlystop.weighings import Weighing, best_places, column_by, plain_table, times_whole
from earlystop.worths import worths

ROOM = "room"
LACK = "lack"
RULE = "rule"
NONE = "none"


def fewest(trial, aim):
    weighing = Weighing(trial, aim)
    master = settled(weighing, aim[1])
    # A lack that still stands is above nought: shares that are used up at once are told apart as if each bound let a
    # hair more, and bounds that can be kept leave no lack then either.
    if lacks(master):
        prices = prices_of(weighing, master, 1)
        return (NONE, prices, worths(trial, without_costs(aim), prices))
    prices = prices_of(weighing, master, weighing.cost_unit)
    return (RULE, standing_mixed(faces_of(trial), weighing, master), prices, worths(trial, aim, prices))


def least_cost(trial, aim):
    paper = fewest(trial, aim)
    return cost(trial, paper[1], aim) if paper[0] == RULE else None


def settled(weighing, bounds):
    """Rules are mixed, a row for each way's wrong up to its bound, and a last one for the shares up to one.

    What stands is (word, cost, places): room that a bound leaves, what the shares lack of one, or a plain rule.
    """
    ends = [times_whole(bound, unit) for bound, unit in zip(bounds, weighing.units)]
    own = [(ROOM, 0, None) for bound in bounds]
    master = Master(ends + [1], own + [(LACK, 0, None)])
    entering = better(weighing, master)
    while entering is not None:
        master.enter(entering[0], entering[1])
        entering = better(weighing, master)
    return master


def lacks(master):
    return any([thing[0] == LACK for thing in master.standing])


def rates_of(master):
    """By what lacks, where something does, else by the costs."""
    if lacks(master):
        return master.rates([1 if thing[0] == LACK else 0 for thing in master.standing])
    return master.rates([thing[1] for thing in master.standing])


def factors_of(rates):
    """What a wrong word of each way is priced at: what it would save to let it be."""
    return [-rate for rate in rates[:-1]]


def better(weighing, master):
    """A column by which less lacks or, where nothing does, all costs less, and what it is; None where there is none."""
    rates = rates_of(master)
    factors = factors_of(rates)
    for way, factor in enumerate(factors):
        if factor < 0:
            return (one_among(len(rates), way), (ROOM, 0, None))
    best = best_places(weighing, factors, 0 if lacks(master) else master.parts)
    if best[1] >= rates[-1]:
        return None
    column = column_by(weighing, best[0])
    return (column[1] + [1], (RULE, column[0], best[0]))


def prices_of(weighing, master, cost_unit):
    factors = factors_of(rates_of(master))
    parts = master.parts * cost_unit
    return tuple([fraction(factor * unit, parts) for factor, unit in zip(factors, weighing.units)])


def standing_mixed(faces, weighing, master):
    rule = None
    share = 0
    for row, thing in zip(master.rows, master.standing):
        if thing[0] == RULE and row[0] > 0:
            other = rule_within(faces, plain_table(weighing, thing[2]))
            share = share + row[0]
            rule = other if rule is None else mixed(other, rule, fraction(row[0], share))
    return rule
