"""Trials and rules with their ways or faces in another order."""

from earlystop.errors import NoOrder
from earlystop.kinds import is_tuple_of
from earlystop.rules import rule_faces, rule_ways
from earlystop.trials import faces_of, ways_of
from earlystop.wholes import is_whole


def is_order(thing, many):
    return is_tuple_of(thing, many) and all([is_whole(one) for one in thing]) and sorted(thing) == list(range(many))


def check_order(thing, many):
    if not is_order(thing, many):
        raise NoOrder("no order of so many")


def turned(things, order):
    return tuple([things[place] for place in order])


def ways_turned(trial, order):
    check_order(order, ways_of(trial))
    return (trial[0], turned(trial[1], order))


def faces_turned(trial, order):
    check_order(order, faces_of(trial))
    return (turned(trial[0], order), tuple([(name, turned(shares, order)) for name, shares in trial[1]]))


def rule_ways_turned(rule, order):
    check_order(order, rule_ways(rule))
    return tuple([(counts, says[:1] + turned(says[1:], order)) for counts, says in rule])


def rule_faces_turned(rule, order):
    check_order(order, rule_faces(rule))
    entries = [(turned(counts, order), says) for counts, says in rule]
    return tuple(sorted(entries, key=lambda entry: (sum(entry[0]), entry[0])))


def undone(order):
    if not isinstance(order, tuple) or len(order) == 0:
        raise NoOrder("no order of one or more")
    check_order(order, len(order))
    return tuple([order.index(place) for place in range(len(order))])
