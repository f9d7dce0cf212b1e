"""Promises 32, 33 and 34, the mixed shares of 5, and the interface's row "Stage 9, mixing"."""

import random
import unittest
from fractions import Fraction

from earlystop.amounts import amounts
from earlystop.errors import NoRule
from earlystop.looks import all_counts
from earlystop.mixing import behind, cut, mixed
from earlystop.rules import is_rule, most_of, rule_of, says_at
from earlystop.shares import average, ended, said, spent, wrong
from brute import value
from cases import Case
from rulesamples import FIRST, ON, SECOND, random_rule, trials_and_rules
from samples import TRIALS, one_at, pair, sizes

ONE_LOOK = (((0, 0), ON), ((0, 1), SECOND), ((1, 0), FIRST))
AT_ONCE = (((0, 0), FIRST),)
TWO_LOOKS = (((0, 0), ON), ((0, 1), ON), ((1, 0), FIRST), ((0, 2), SECOND), ((1, 1), ((0, 1), (1, 3), (2, 3))))
SHARES = [(0, 1), (1, 1), (1, 2), (1, 3), (998, 999), (1, 999)]


def mix(share, one, other):
    return value(share) * one + (1 - value(share)) * other


def mixed_pairs(share, one, other):
    """Two tuples of fractions mixed place by place, the shorter one going on with noughts."""
    length = max(len(one), len(other))
    filled = [list(some) + [(0, 1)] * (length - len(some)) for some in (one, other)]
    return tuple(pair(Fraction(mix(share, value(first), value(second)))) for first, second in zip(*filled))


def pairs_of_rules(seed, many):
    rng = random.Random(seed)
    for k in range(many):
        trial = TRIALS[k % len(TRIALS)]
        made = [random_rule(rng, *sizes(trial), rng.randint(0, 3), rng.random() < 0.6) for each in range(2)]
        yield trial, made[0], made[1], SHARES[k % len(SHARES)]


class Mixed(Case):
    def test_by_hand(self):
        self.assertTold(mixed(ONE_LOOK, AT_ONCE, (1, 3)),
                        (((0, 0), ((1, 3), (2, 3), (0, 1))), ((0, 1), SECOND), ((1, 0), FIRST)))
        self.assertTold(mixed(AT_ONCE, (((0, 0), SECOND),), (1, 4)), (((0, 0), ((0, 1), (1, 4), (3, 4))),))
        half = (((0, 0), ((1, 2), (1, 2), (0, 1))), ((0, 1), FIRST), ((1, 0), FIRST))
        self.assertTold(mixed(ONE_LOOK, half, (1, 2)), (
            ((0, 0), ((3, 4), (1, 4), (0, 1))), ((0, 1), ((0, 1), (1, 3), (2, 3))), ((1, 0), FIRST)))

    def test_by_nought_and_by_one(self):
        for trial, one, other, share in pairs_of_rules(60, 60):
            self.assertTold(mixed(one, other, (1, 1)), one)
            self.assertTold(mixed(one, other, (0, 1)), other)

    def test_with_itself(self):
        for trial, one, other, share in pairs_of_rules(61, 60):
            self.assertTold(mixed(one, one, share), one)

    def test_by_its_words(self):
        for trial, one, other, share in pairs_of_rules(62, 60):
            told = mixed(one, other, share)
            first, second = dict(amounts(one)), dict(amounts(other))
            found = []
            for counts in sorted(set(first) | set(second), key=lambda some: (sum(some), some)):
                part = value(share) * value(first.get(counts, (0, 1)))
                rest = (1 - value(share)) * value(second.get(counts, (0, 1)))
                if part + rest > 0:
                    nought = ((0, 1),) * (1 + len(trial[1]))
                    says = zip(says_at(one, counts) or nought, says_at(other, counts) or nought)
                    found.append((counts, tuple(pair((part * value(a) + rest * value(b)) / (part + rest)) for a, b in says)))
            self.assertTold(told, tuple(found))
            self.assertIs(is_rule(*sizes(trial), told), True)

    def test_amounts_are_mixed(self):
        for trial, one, other, share in pairs_of_rules(63, 60):
            first, second = dict(amounts(one)), dict(amounts(other))
            for counts, amount in amounts(mixed(one, other, share)):
                asked = mix(share, value(first.get(counts, (0, 1))), value(second.get(counts, (0, 1))))
                self.assertTold(amount, pair(Fraction(asked)))

    def test_shares_are_mixed(self):
        costs = ((1, 2), (3, 1), (0, 1))
        for trial, one, other, share in pairs_of_rules(64, 60):
            told = mixed(one, other, share)
            self.assertTold(wrong(trial, told), mixed_pairs(share, wrong(trial, one), wrong(trial, other)))
            for way in range(len(trial[1])):
                for call in (said, average):
                    first, second = call(trial, one, way), call(trial, other, way)
                    if call == average:
                        first, second = (first,), (second,)
                    now = call(trial, told, way)
                    self.assertTold((now,) if call == average else now, mixed_pairs(share, first, second))
                self.assertTold((spent(trial, told, way, costs),), mixed_pairs(
                    share, (spent(trial, one, way, costs),), (spent(trial, other, way, costs),)))
                ends = mixed_pairs(share, ended(trial, one, way), ended(trial, other, way))
                now = ended(trial, told, way)
                self.assertTold(now, ends[:len(now)])
                self.assertEqual(set(ends[len(now):]) - {(0, 1)}, set())

    def test_of_unlike_length(self):
        told = mixed(TWO_LOOKS, AT_ONCE, (1, 2))
        self.assertTold(told, ((((0, 0), ((1, 2), (1, 2), (0, 1))),) + TWO_LOOKS[1:]))
        self.assertTold(mixed(AT_ONCE, TWO_LOOKS, (1, 2)), told)

    def test_mixed_again_and_again(self):
        rng = random.Random(65)
        trial = TRIALS[1]
        told = random_rule(rng, 3, 3, 3, True)
        for k in range(8):
            other = random_rule(rng, 3, 3, 3, True)
            both = mixed(told, other, (1, 3))
            self.assertIs(is_rule(3, 3, both), True)
            self.assertTold(wrong(trial, both), mixed_pairs((1, 3), wrong(trial, told), wrong(trial, other)))
            told = both


class Cut(Case):
    def test_by_hand(self):
        self.assertTold(cut(TWO_LOOKS, 0, 0), AT_ONCE)
        self.assertTold(cut(TWO_LOOKS, 0, 1), (((0, 0), SECOND),))
        self.assertTold(cut(TWO_LOOKS, 1, 1), ONE_LOOK)
        self.assertTold(cut(TWO_LOOKS, 1, 0), (((0, 0), ON), ((0, 1), FIRST), ((1, 0), FIRST)))
        self.assertTold(cut((((0, 0), ((1, 2), (1, 3), (1, 6))), ((0, 1), FIRST), ((1, 0), FIRST)), 0, 1),
                        (((0, 0), ((0, 1), (1, 3), (2, 3))),))

    def test_at_its_most_and_more(self):
        for trial, rule in trials_and_rules(66, 40):
            for most in range(most_of(rule), 9):
                for way in range(len(trial[1])):
                    self.assertTold(cut(rule, most, way), rule)

    def test_by_its_words(self):
        for trial, rule in trials_and_rules(67, 40):
            faces, ways = sizes(trial)
            for most in range(5):
                for way in range(ways):
                    told = cut(rule, most, way)
                    self.assertIs(is_rule(faces, ways, told), True)
                    self.assertEqual([counts for counts, says in told], [c for c, says in rule if sum(c) <= most])
                    for counts, says in told:
                        before = list(says_at(rule, counts))
                        if sum(counts) == most:
                            before[1 + way] = pair(value(before[1 + way]) + value(before[0]))
                            before[0] = (0, 1)
                        self.assertTold(says, tuple(before))

    def test_four_ways(self):
        rule = rule_of(2, 4, {(0, 0): ((1, 5),) * 5, (0, 1): one_at(5, 1), (1, 0): one_at(5, 4)})
        for way in range(4):
            told = cut(rule, 0, way)
            self.assertTold(told, (((0, 0), ((0, 1),) + tuple((2, 5) if k == way else (1, 5) for k in range(4))),))


class Behind(Case):
    def test_by_hand(self):
        self.assertTold(behind(TWO_LOOKS, 1), (((0, 0), ON), ((0, 1), SECOND), ((1, 0), ((0, 1), (1, 3), (2, 3)))))
        self.assertTold(behind(TWO_LOOKS, 0), AT_ONCE)
        self.assertTold(behind(ONE_LOOK, 1), (((0, 0), SECOND),))

    def test_each_face(self):
        for trial, rule in trials_and_rules(68, 60):
            faces, ways = sizes(trial)
            for face in range(faces):
                if rule[0][1][0] == (0, 1):
                    self.assertRefused(NoRule, {"counts": (0,) * faces}, behind, rule, face)
                    continue
                told = behind(rule, face)
                self.assertIs(is_rule(faces, ways, told), True)
                for counts, says in told:
                    more = tuple(count + (k == face) for k, count in enumerate(counts))
                    self.assertTold(says, says_at(rule, more))

    def test_entries_come_to_by_other_faces_alone(self):
        rule = rule_of(2, 2, {(0, 0): ON, (0, 1): ON, (1, 0): FIRST, (0, 2): SECOND, (1, 1): ON, (1, 2): FIRST,
                              (2, 1): SECOND})
        self.assertTold(behind(rule, 0), AT_ONCE)
        self.assertTold(behind(rule, 1), (((0, 0), ON), ((0, 1), SECOND), ((1, 0), ON), ((1, 1), FIRST), ((2, 0), SECOND)))

    def test_said_by_what_is_behind(self):
        for trial, rule in trials_and_rules(69, 40):
            on = rule[0][1][0]
            if on == (0, 1):
                continue
            for way in range(len(trial[1])):
                asked = [value(share) for share in rule[0][1][1:]]
                for face in range(len(trial[0])):
                    part = value(on) * value(trial[1][way][1][face])
                    for word, share in enumerate(said(trial, behind(rule, face), way)):
                        asked[word] += part * value(share)
                self.assertTold(said(trial, rule, way), tuple(pair(share) for share in asked))

    def test_does_not_look_on(self):
        for says in [FIRST, SECOND, ((0, 1), (1, 2), (1, 2))]:
            for face in range(2):
                self.assertRefused(NoRule, {"counts": (0, 0)}, behind, (((0, 0), says),), face)
        self.assertRefused(NoRule, {"counts": (0, 0, 0, 0)}, behind, (((0, 0, 0, 0), FIRST),), 3)

    def test_looks_on_by_lots(self):
        rule = (((0, 0), ((1, 999), (998, 999), (0, 1))), ((0, 1), SECOND), ((1, 0), FIRST))
        self.assertTold(behind(rule, 0), AT_ONCE)

    def test_longer_rules_are_not_refused(self):
        rule = tuple((counts, ON if sum(counts) < 11 else FIRST) for counts in all_counts(2, 11))
        self.assertTold(behind(rule, 1), tuple((c, ON if sum(c) < 10 else FIRST) for c in all_counts(2, 10)))
        self.assertTold(most_of(mixed(rule, AT_ONCE, (1, 2))), 11)
        self.assertTold(most_of(cut(rule, 10, 0)), 10)


if __name__ == "__main__":
    unittest.main()
