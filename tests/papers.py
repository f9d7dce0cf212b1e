"""Papers for the tests, and what is wrong with one, by the document's words and Python's own fractions."""

import math
from fractions import Fraction

import brute
from brute import value
from earlystop.rules import is_rule
from rulesamples import FIRST, ON, SECOND

HALVES = ((1, 2), (1, 2))
NOUGHTS = ((0, 1), (0, 1))
# At bounds of 1/2 and 1/4 one look is just enough, and it costs 3.
ONE_LOOK = (((0, 0), ON), ((0, 1), SECOND), ((1, 0), FIRST))
TIGHT = (1, ((1, 2), (1, 4)), HALVES, ((3, 1),))
TIGHT_PRICES = ((16, 1), (16, 1))
# Behind a head 16/2 beside 16 times 3/4, behind a tail 16/2 beside 16/4; at the noughts 3 and both of these.
TIGHT_PAPER = ("rule", ONE_LOOK, TIGHT_PRICES, (((0, 0), (15, 1)), ((0, 1), (8, 1)), ((1, 0), (4, 1))))
# A hair less for the second way, and no rule keeps it.
STRICT = (1, ((1, 2), (1, 5)), HALVES, ((3, 1),))
STRICT_PAPER = ("none", TIGHT_PRICES, (((0, 0), (12, 1)), ((0, 1), (8, 1)), ((1, 0), (4, 1))))


def are_lowest(thing, many=None):
    """Whether it is a tuple of fractions, of so many where that is told."""
    if type(thing) is not tuple or (many is not None and len(thing) != many):
        return False
    for one in thing:
        if type(one) is not tuple or [type(part) for part in one] != [int, int] or one[1] < 1:
            return False
        if math.gcd(*one) != 1:
            return False
    return True


def are_worths(trial, aim, thing):
    if type(thing) is not tuple or not all(type(one) is tuple and len(one) == 2 for one in thing):
        return False
    if not all(type(one[0]) is tuple and all(type(count) is int for count in one[0]) for one in thing):
        return False
    rising = brute.rising(len(trial[0]), aim[0])
    return are_lowest(tuple(one[1] for one in thing)) and [one[0] for one in thing] == rising


def has_shape(trial, aim, thing):
    if type(thing) is not tuple or len(thing) not in (3, 4) or thing[0] != {3: "none", 4: "rule"}[len(thing)]:
        return False
    prices, worths = thing[-2:]
    right = are_lowest(prices, len(trial[1])) and all(price[0] >= 0 for price in prices)
    return right and are_worths(trial, aim, worths)


def rule_fault(trial, aim, rule):
    if not is_rule(len(trial[0]), len(trial[1]), rule):
        return ("rule", None)
    for counts, says in rule:
        if sum(counts) > aim[0]:
            return ("most", counts)
    for way, share in enumerate(brute.wrong(trial, rule)):
        if share > value(aim[1][way]):
            return ("wrong", way)
    return None


def worth_fault(trial, aim, prices, worths):
    worth_of = {counts: value(worth) for counts, worth in worths}
    for counts, worth in worths:
        if any(value(worth) > one for one in brute.sums(trial, aim, prices, counts, worth_of.get)):
            return ("worth", counts)
    return None


def fault_of(trial, aim, thing):
    """(word, at) of the first fault, None where it is let by."""
    if not has_shape(trial, aim, thing):
        return ("shape", None)
    prices, worths = thing[-2:]
    most, bounds, mix, costs = aim
    at_noughts = value(worths[0][1])
    allowed = sum((value(price) * value(bound) for price, bound in zip(prices, bounds)), Fraction(0))
    if thing[0] == "rule":
        found = rule_fault(trial, aim, thing[1]) or worth_fault(trial, aim, prices, worths)
        return found or (None if brute.cost(trial, thing[1], aim) == at_noughts - allowed else ("sum", None))
    found = worth_fault(trial, (most, bounds, mix, ((0, 1),) * most), prices, worths)
    return found or (None if at_noughts > allowed else ("sum", None))
