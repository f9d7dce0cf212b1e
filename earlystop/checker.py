"""The small checker of papers: it searches nothing, and sets numbers beside numbers."""

from earlystop.aims import are_prices, without_costs
from earlystop.errors import NoPaper
from earlystop.fractions import is_fraction, is_less, less, times, total
from earlystop.kinds import is_tuple_of
from earlystop.looks import all_counts, is_counts
from earlystop.rules import is_rule
from earlystop.shares import cost, wrong
from earlystop.trials import faces_of, ways_of
from earlystop.worths import sums_at


def lets_paper(trial, aim, thing):
    if has_shape(trial, aim, thing, "rule", 4):
        check_rule(trial, aim, thing[1])
        check_worths(trial, aim, thing[2], thing[3])
        if cost(trial, thing[1], aim) != less(thing[3][0][1], bounds_priced(aim, thing[2])):
            raise NoPaper("sum", None)
    elif has_shape(trial, aim, thing, "none", 3):
        check_worths(trial, without_costs(aim), thing[1], thing[2])
        if not is_less(bounds_priced(aim, thing[1]), thing[2][0][1]):
            raise NoPaper("sum", None)
    else:
        raise NoPaper("shape", None)
    return True


def has_shape(trial, aim, thing, word, many):
    if not is_tuple_of(thing, many) or thing[0] != word:
        return False
    return are_prices(trial, thing[-2]) and are_worths(trial, aim, thing[-1])


def are_worths(trial, aim, thing):
    faces = faces_of(trial)
    if not isinstance(thing, tuple) or not all([is_worth(faces, one) for one in thing]):
        return False
    return [one[0] for one in thing] == all_counts(faces, aim[0])


def is_worth(faces, thing):
    return is_tuple_of(thing, 2) and is_counts(faces, thing[0]) and is_fraction(thing[1])


def check_rule(trial, aim, rule):
    if not is_rule(faces_of(trial), ways_of(trial), rule):
        raise NoPaper("rule", None)
    for entry in rule:
        if sum(entry[0]) > aim[0]:
            raise NoPaper("most", entry[0])
    for way, share in enumerate(wrong(trial, rule)):
        if is_less(aim[1][way], share):
            raise NoPaper("wrong", way)


def check_worths(trial, aim, prices, worths):
    worth_of = dict(worths)
    for counts, worth in worths:
        sums = sums_at(trial, aim, prices, counts, worth_of)
        if any([is_less(one, worth) for one in sums]):
            raise NoPaper("worth", counts)


def bounds_priced(aim, prices):
    return total([times(price, bound) for price, bound in zip(prices, aim[1])])
