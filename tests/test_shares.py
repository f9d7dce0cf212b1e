"""Promises 26 and 27, the first sentence of 5, and the interface's row "Stage 6, shares"."""

import random
import unittest
from fractions import Fraction

import brute
from earlystop.looks import all_counts
from earlystop.rules import most_of, rule_of
from earlystop.shares import average, cost, ended, keeps, said, spent, wrong
from brute import value
from cases import Case, replaced
from rulesamples import FIRST, ON, SECOND, random_rule, trials_and_rules
from samples import COINS, SUITS, SURE, TRIALS, one_at, pair, random_aim, sizes

ONE_LOOK = (((0, 0), ON), ((0, 1), SECOND), ((1, 0), FIRST))
HALF_LOOK = (((0, 0), ((1, 2), (1, 2), (0, 1))), ((0, 1), SECOND), ((1, 0), FIRST))


def pairs(values):
    return tuple(pair(one) for one in values)


class ByHand(Case):
    def test_one_look(self):
        self.assertTold(said(COINS, ONE_LOOK, 0), ((1, 2), (1, 2)))
        self.assertTold(said(COINS, ONE_LOOK, 1), ((1, 4), (3, 4)))
        self.assertTold(wrong(COINS, ONE_LOOK), ((1, 2), (1, 4)))
        self.assertTold(ended(COINS, ONE_LOOK, 1), ((0, 1), (1, 1)))
        self.assertTold(average(COINS, ONE_LOOK, 0), (1, 1))
        self.assertTold(spent(COINS, ONE_LOOK, 0, ((7, 3),)), (7, 3))

    def test_by_lots(self):
        self.assertTold(said(COINS, HALF_LOOK, 0), ((3, 4), (1, 4)))
        self.assertTold(said(COINS, HALF_LOOK, 1), ((5, 8), (3, 8)))
        self.assertTold(wrong(COINS, HALF_LOOK), ((1, 4), (5, 8)))
        self.assertTold(ended(COINS, HALF_LOOK, 1), ((1, 2), (1, 2)))
        self.assertTold(average(COINS, HALF_LOOK, 0), (1, 2))
        self.assertTold(spent(COINS, HALF_LOOK, 0, ((7, 3),)), (7, 6))

    def test_at_once(self):
        rule = (((0, 0), SECOND),)
        self.assertTold(said(COINS, rule, 0), ((0, 1), (1, 1)))
        self.assertTold(wrong(COINS, rule), ((1, 1), (0, 1)))
        self.assertTold(ended(COINS, rule, 0), ((1, 1),))
        self.assertTold(average(COINS, rule, 0), (0, 1))
        self.assertTold(spent(COINS, rule, 0, ()), (0, 1))
        self.assertTold(spent(COINS, rule, 0, ((5, 1), (7, 2))), (0, 1))
        self.assertTold(cost(COINS, rule, (0, ((1, 2), (1, 2)), ((1, 2), (1, 2)), ())), (0, 1))

    def test_looks_never_made(self):
        rule = rule_of(2, 3, {
            (0, 0): one_at(4, 0), (0, 1): one_at(4, 0), (1, 0): one_at(4, 1), (0, 2): one_at(4, 2), (1, 1): one_at(4, 3)})
        self.assertTold(said(SURE, rule, 0), ((1, 1), (0, 1), (0, 1)))
        self.assertTold(ended(SURE, rule, 0), ((0, 1), (1, 1), (0, 1)))
        self.assertTold(said(SURE, rule, 1), ((0, 1), (1, 1), (0, 1)))
        self.assertTold(ended(SURE, rule, 1), ((0, 1), (0, 1), (1, 1)))
        self.assertTold(average(SURE, rule, 1), (2, 1))
        self.assertTold(spent(SURE, rule, 0, ((1, 2), (999, 1))), (1, 2))
        self.assertTold(wrong(SURE, rule), ((0, 1), (0, 1), pair(1 - Fraction(998, 999) * Fraction(1, 999))))


class AgainstAllRows(Case):
    def test_said(self):
        for trial, rule in trials_and_rules(30, 80):
            for way in range(len(trial[1])):
                told = said(trial, rule, way)
                self.assertTold(told, pairs(brute.said(trial, rule, way)))
                self.assertEqual(sum(value(share) for share in told), 1)

    def test_ended(self):
        for trial, rule in trials_and_rules(31, 80):
            for way in range(len(trial[1])):
                told = ended(trial, rule, way)
                self.assertTold(told, pairs(brute.ended(trial, rule, way)))
                self.assertEqual(len(told), most_of(rule) + 1)
                self.assertEqual(sum(value(share) for share in told), 1)

    def test_average(self):
        for trial, rule in trials_and_rules(32, 80):
            for way in range(len(trial[1])):
                asked = brute.spent(trial, rule, way, [1] * most_of(rule))
                self.assertTold(average(trial, rule, way), pair(asked))
                by_ends = sum(k * value(share) for k, share in enumerate(ended(trial, rule, way)))
                self.assertEqual(asked, by_ends)

    def test_spent(self):
        rng = random.Random(33)
        for trial, rule in trials_and_rules(33, 80):
            costs = [Fraction(rng.randint(0, 30), rng.randint(1, 9)) for look in range(most_of(rule) + rng.randint(0, 3))]
            for way in range(len(trial[1])):
                self.assertTold(spent(trial, rule, way, pairs(costs)), pair(brute.spent(trial, rule, way, costs)))

    def test_wrong(self):
        for trial, rule in trials_and_rules(34, 80):
            told = wrong(trial, rule)
            self.assertTold(told, pairs(brute.wrong(trial, rule)))
            for way in range(len(trial[1])):
                self.assertEqual(value(told[way]) + value(said(trial, rule, way)[way]), 1)

    def test_long_rules(self):
        rng = random.Random(35)
        for by_lots in (False, True):
            rule = random_rule(rng, 2, 2, 8, by_lots)
            for way in range(2):
                self.assertTold(said(COINS, rule, way), pairs(brute.said(COINS, rule, way)))
                self.assertTold(ended(COINS, rule, way), pairs(brute.ended(COINS, rule, way)))
        table = {counts: one_at(5, 0 if sum(counts) < 5 else 1) for counts in all_counts(4, 5)}
        self.assertTold(said(SUITS, rule_of(4, 4, table), 3), ((1, 1), (0, 1), (0, 1), (0, 1)))

    def test_nothing_hangs_on_what_was_asked_before(self):
        asked = [(trial, rule, said(trial, rule, 1)) for trial, rule in trials_and_rules(36, 20)]
        for trial, rule, told in reversed(asked):
            self.assertTold(said(trial, rule, 1), told)


class ByAnAim(Case):
    def test_cost(self):
        rng = random.Random(37)
        for trial, rule in trials_and_rules(37, 60):
            aim = random_aim(rng, trial, most_of(rule) + rng.randint(0, 2))
            costs = [value(one) for one in aim[3]]
            asked = sum(value(aim[2][way]) * brute.spent(trial, rule, way, costs) for way in range(len(trial[1])))
            self.assertTold(cost(trial, rule, aim), pair(Fraction(asked)))

    def test_cost_by_hand(self):
        aim = (1, ((1, 1), (1, 1)), ((1, 3), (2, 3)), ((6, 1),))
        self.assertTold(cost(COINS, ONE_LOOK, aim), (6, 1))
        self.assertTold(cost(COINS, HALF_LOOK, aim), (3, 1))

    def test_keeps_at_just_its_own_wrongs(self):
        rng = random.Random(38)
        for trial, rule in trials_and_rules(38, 60):
            wrongs = wrong(trial, rule)
            aim = replaced(random_aim(rng, trial, most_of(rule)), 1, wrongs)
            self.assertIs(keeps(trial, rule, aim), True)
            for way in range(len(wrongs)):
                share = value(wrongs[way])
                if share < 1:
                    more = pair(min(Fraction(1), share + Fraction(1, 10 ** 40)))
                    self.assertIs(keeps(trial, rule, replaced(aim, 1, replaced(wrongs, way, more))), True)
                if share > 0:
                    fewer = pair(share - min(share, Fraction(1, 10 ** 40)))
                    self.assertIs(keeps(trial, rule, replaced(aim, 1, replaced(wrongs, way, fewer))), False)

    def test_keeps_at_the_ends(self):
        for trial in TRIALS:
            faces, ways = sizes(trial)
            for way in range(ways):
                rule = (((0,) * faces, one_at(1 + ways, 1 + way)),)
                aim = random_aim(random.Random(way), trial, 0)
                self.assertIs(keeps(trial, rule, replaced(aim, 1, ((1, 1),) * ways)), True)
                self.assertIs(keeps(trial, rule, replaced(aim, 1, ((0, 1),) * ways)), False)
                most = tuple((0, 1) if k == way else (1, 1) for k in range(ways))
                self.assertIs(keeps(trial, rule, replaced(aim, 1, most)), True)

    def test_keeps_by_hand(self):
        for bounds, asked in [(((1, 2), (1, 4)), True), (((1, 2), (249, 998)), False), (((499, 999), (1, 4)), False),
                              (((501, 999), (1, 3)), True), (((1, 1), (0, 1)), False)]:
            self.assertIs(keeps(COINS, ONE_LOOK, (1, bounds, ((1, 2), (1, 2)), ((1, 1),))), asked)


if __name__ == "__main__":
    unittest.main()
