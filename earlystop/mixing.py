"""Rules made of rules: two mixed, one cut, one left behind a first look."""

from earlystop.amounts import amounts
from earlystop.errors import NoRule
from earlystop.fractions import less, over, plus, times
from earlystop.kinds import NOUGHT, ONE
from earlystop.looks import noughts, one_less
from earlystop.rules import looks_on, rule_faces, rule_within


def mixed(one, other, share):
    one_parts = parts_of(one, share)
    other_parts = parts_of(other, less(ONE, share))
    table = {}
    for counts in list(one_parts) + list(other_parts):
        table[counts] = says_of_parts(one_parts.get(counts), other_parts.get(counts))
    return rule_within(rule_faces(one), table)


def parts_of(rule, share):
    """For counts come to with an amount times share above nought: this product, and it times each of the says."""
    parts = {}
    for entry, amount in zip(rule, amounts(rule)):
        part = times(amount[1], share)
        if part != NOUGHT:
            parts[entry[0]] = (part, [times(part, one) for one in entry[1]])
    return parts


def says_of_parts(one, other):
    if one is None:
        return says_of_parts(other, one)
    if other is None:
        return tuple([over(part, one[0]) for part in one[1]])
    whole = plus(one[0], other[0])
    return tuple([over(plus(first, second), whole) for first, second in zip(one[1], other[1])])


def cut(rule, most, way):
    entries = []
    for counts, says in rule:
        if sum(counts) < most:
            entries.append((counts, says))
        elif sum(counts) == most:
            entries.append((counts, stopped(says, way)))
    return tuple(entries)


def stopped(says, way):
    place = 1 + way
    return (NOUGHT,) + says[1:place] + (plus(says[0], says[place]),) + says[place + 1:]


def behind(rule, face):
    if not looks_on(rule[0][1]):
        raise NoRule(noughts(rule_faces(rule)))
    table = {}
    for counts, says in rule:
        if counts[face] > 0:
            table[one_less(counts, face)] = says
    return rule_within(rule_faces(rule), table)
