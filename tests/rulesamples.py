"""Rules for the tests: plain ones, ones by lots, and all plain ones there are."""

import random

from earlystop.looks import all_counts
from earlystop.rules import rule_of
from samples import TRIALS, one_at, random_parts, random_trial, sizes

ON = ((1, 1), (0, 1), (0, 1))
FIRST = ((0, 1), (1, 1), (0, 1))
SECOND = ((0, 1), (0, 1), (1, 1))


def random_says(rng, ways, may_look_on, by_lots):
    if by_lots and rng.random() < 0.7:
        return random_parts(rng, 1 + ways) if may_look_on else ((0, 1),) + random_parts(rng, ways)
    if may_look_on and rng.random() < 0.7:
        return one_at(1 + ways, 0)
    return one_at(1 + ways, rng.randrange(1, 1 + ways))


def random_rule(rng, faces, ways, most, by_lots):
    table = {}
    for counts in all_counts(faces, most):
        table[counts] = random_says(rng, ways, sum(counts) < most, by_lots)
    return rule_of(faces, ways, table)


def trials_and_rules(seed, many, most=3):
    """So many trials, each with a rule of its faces and ways, plain ones and ones by lots by turns."""
    rng = random.Random(seed)
    found = []
    for k in range(many):
        trial = TRIALS[k % len(TRIALS)] if k % 3 else random_trial(rng, rng.randint(2, 4), rng.randint(2, 4))
        found.append((trial, random_rule(rng, *sizes(trial), rng.randint(0, most), k % 2 == 0)))
    return found


def all_plain_rules(faces, ways, most):
    """Every plain rule of so many faces and ways whose counts are at most so many."""
    return list(grown((), [(0,) * faces], ways, most))


def grown(entries, due, ways, most):
    if not due:
        yield entries
        return
    counts = due[0]
    for place in range(0 if sum(counts) < most else 1, 1 + ways):
        after = list(due[1:])
        if place == 0:
            more = [tuple(c + (k == face) for k, c in enumerate(counts)) for face in range(len(counts))]
            after = sorted(set(after + more), key=lambda one: (sum(one), one))
        yield from grown(entries + ((counts, one_at(1 + ways, place)),), after, ways, most)
