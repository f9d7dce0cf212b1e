"""The amounts of a rule: how many rows come to counts, each counted by the lots ahead of it."""

from earlystop.fractions import plus, times
from earlystop.kinds import NOUGHT, ONE
from earlystop.looks import noughts, ones_more
from earlystop.rules import looks_on, rule_faces


def amounts(rule):
    amount_of = {noughts(rule_faces(rule)): ONE}
    for counts, says in rule:
        if looks_on(says):
            onward = times(amount_of[counts], says[0])
            for more in ones_more(counts):
                amount_of[more] = plus(amount_of.get(more, NOUGHT), onward)
    return tuple([(entry[0], amount_of[entry[0]]) for entry in rule])
