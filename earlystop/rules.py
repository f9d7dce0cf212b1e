"""Rules: what is done at each counts that they come to, told of any thing or made of a table."""

from earlystop.errors import NoRule
from earlystop.kinds import ONE, are_parts, is_tuple_of
from earlystop.looks import is_counts, noughts, ones_more

MOST_COUNTS = 8
LOOKS_ON = 0


def are_says(ways, thing):
    return are_parts(thing, 1 + ways)


def looks_on(says):
    return says[LOOKS_ON][0] > 0


def is_rule(faces, ways, thing):
    if not isinstance(thing, tuple) or not all([is_entry(faces, ways, one) for one in thing]):
        return False
    return [entry[0] for entry in thing] == counts_come_to(faces, dict(thing))


def is_entry(faces, ways, thing):
    return is_tuple_of(thing, 2) and is_counts(faces, thing[0]) and are_says(ways, thing[1])


def counts_come_to(faces, table):
    """All counts, rising, come to from the noughts; behind counts that the table has not it goes no further."""
    found = []
    level = [noughts(faces)]
    while len(level) > 0:
        found.extend(level)
        level = counts_behind(level, table)
    return found


def counts_behind(level, table):
    found = {}
    for counts in level:
        if counts in table and looks_on(table[counts]):
            for more in ones_more(counts):
                found[more] = True
    return sorted(found)


def rule_of(faces, ways, table):
    right = {}
    for counts in table:
        if is_counts(faces, counts) and sum(counts) <= MOST_COUNTS and are_says(ways, table[counts]):
            right[counts] = table[counts]
    for counts in counts_come_to(faces, right):
        if counts not in right:
            raise NoRule(counts)
    return rule_within(faces, right)


def rule_within(faces, table):
    return tuple([(counts, table[counts]) for counts in counts_come_to(faces, table)])


def says_at(rule, counts):
    for entry in rule:
        if entry[0] == counts:
            return entry[1]
    return None


def most_of(rule):
    # Entries rise by how many their counts are: the last one has the most.
    return sum(rule[-1][0])


def is_plain(rule):
    return all([ONE in entry[1] for entry in rule])


def rule_faces(rule):
    return len(rule[0][0])


def rule_ways(rule):
    return len(rule[0][1]) - 1
