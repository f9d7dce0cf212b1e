"""Several tests side by side: how often some word is wrong, whatever plan leads them."""

from earlystop.fractions import is_less, least_place, less, plus, times, total
from earlystop.kinds import NOUGHT, ONE
from earlystop.looks import noughts, one_more
from earlystop.rules import rule_faces
from earlystop.shares import wrong
from earlystop.trials import way_shares

BREAK_OFF = -1


def together(hall, choice):
    return some_of([wrong(test[0], test[1])[way] for test, way in zip(hall, choice)])


def some_of(shares):
    """The share with which at least one comes of several that come apart, each with its share."""
    none = ONE
    for share in shares:
        none = times(none, less(ONE, share))
    return less(ONE, none)


def worst(hall):
    # Together never falls as one test's wrong grows: each test's own greatest one makes the greatest.
    choice = tuple([greatest_place(wrong(test[0], test[1])) for test in hall])
    return (together(hall, choice), choice)


def greatest_place(shares):
    return least_place([less(NOUGHT, share) for share in shares])


def is_dealt(bound, shares):
    return not is_less(bound, some_of(shares))


def led(hall, choice, plan):
    ends = [ends_of(test[1], way) for test, way in zip(hall, choice)]
    face_shares = [way_shares(test[0], way) for test, way in zip(hall, choice)]
    stands = stands_at_first(hall, ends)
    left = []
    looks = []
    # Each look makes all counts together one more: no stand comes again.
    while len(stands) > 0:
        later = []
        for stand, share in stands.items():
            test = looked_at(plan, stand)
            if test is None:
                left.append((stand, share))
            else:
                looks.append(share)
                later.extend(stands_behind_look(stand, share, test, face_shares[test], ends[test]))
        stands = gathered(later)
    some_wrong = total([share for stand, share in left if stand[2]])
    all_said = total([share for stand, share in left if True not in stand[1]])
    return (some_wrong, all_said, total(looks))


def ends_of(rule, way):
    """By counts the shares with which, of a thing of that way, it looks on there, is right, is wrong."""
    found = {}
    for counts, says in rule:
        right = says[1 + way]
        found[counts] = (says[0], right, less(ONE, plus(says[0], right)))
    return found


def stands_at_first(hall, ends):
    """A stand is the counts of all tests, whether each one looks on, and whether some test has said a wrong way."""
    begun = tuple([noughts(rule_faces(test[1])) for test in hall])
    stands = {(begun, tuple([True for test in hall]), False): ONE}
    for test, counts in enumerate(begun):
        later = []
        for stand, share in stands.items():
            later.extend(stands_come_to(stand, share, test, counts, ends[test]))
        stands = gathered(later)
    return stands


def looked_at(plan, stand):
    """The test that is looked at next, None where all are over or it is broken off."""
    going = [test for test, looks_on in enumerate(stand[1]) if looks_on]
    told = plan.get(stand[0])
    if len(going) == 0 or told == BREAK_OFF:
        return None
    return told if told in going else going[0]


def stands_behind_look(stand, share, test, face_shares, ends):
    found = []
    for face, face_share in enumerate(face_shares):
        found.extend(stands_come_to(stand, times(share, face_share), test, one_more(stand[0][test], face), ends))
    return found


def stands_come_to(stand, share, test, counts, ends):
    """What comes of a stand where one test has come to new counts, each with its part of the share."""
    seen = put(stand[0], test, counts)
    over = put(stand[1], test, False)
    found = [(seen, stand[1], stand[2]), (seen, over, stand[2]), (seen, over, True)]
    return [(one, times(share, part)) for one, part in zip(found, ends[counts])]


def put(things, place, thing):
    return things[:place] + (thing,) + things[place + 1:]


def gathered(found):
    stands = {}
    for stand, share in found:
        if share != NOUGHT:
            stands[stand] = plus(stands.get(stand, NOUGHT), share)
    return stands
