"""Rules of two faces and two ways by plain bounds on how often the second face was shown."""

from earlystop.errors import NoBounds, NoRule
from earlystop.kinds import is_tuple_of
from earlystop.looks import all_counts
from earlystop.rules import is_plain, most_of, rule_of
from earlystop.wholes import is_whole

ON = ((1, 1), (0, 1), (0, 1))
SAYS_FIRST = ((0, 1), (1, 1), (0, 1))
SAYS_SECOND = ((0, 1), (0, 1), (1, 1))
MOST_BOUNDS = 9


def bounds_of(rule):
    if not is_plain(rule):
        return None
    found = [closest_bounds(rule, looks) for looks in range(most_of(rule) + 1)]
    # No other bounds fit where the closest ones don't: looser ones say a way at more counts.
    for counts, says in rule:
        if says_by(found, counts) != says:
            return None
    return tuple(found)


def closest_bounds(rule, looks):
    low = -1
    high = looks + 1
    for counts, says in rule:
        if sum(counts) == looks and says == SAYS_FIRST:
            low = max(low, counts[1])
        if sum(counts) == looks and says == SAYS_SECOND:
            high = min(high, counts[1])
    return (low, high)


def says_by(bounds, counts):
    bound = bounds[sum(counts)]
    if counts[1] <= bound[0]:
        return SAYS_FIRST
    return SAYS_SECOND if counts[1] >= bound[1] else ON


def rule_by(bounds):
    if not isinstance(bounds, tuple) or not 1 <= len(bounds) <= MOST_BOUNDS:
        raise NoBounds(0)
    for k, thing in enumerate(bounds):
        if not is_bound(k, thing):
            raise NoBounds(k)
    last = len(bounds) - 1
    table = {}
    for counts in all_counts(2, last):
        table[counts] = says_by(bounds, counts)
    # The table has all counts up to the last: what a rule can lack are those behind it.
    try:
        return rule_of(2, 2, table)
    except NoRule:
        raise NoBounds(last) from None


def is_bound(k, thing):
    if not is_tuple_of(thing, 2) or not is_whole(thing[0]) or not is_whole(thing[1]):
        return False
    return -1 <= thing[0] <= k and 0 <= thing[1] <= k + 1 and thing[0] < thing[1]
