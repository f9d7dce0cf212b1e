"""Promise 40, the first sentences of 41, what 5 says of prices, and the interface's row "Stage 11, worths"."""

import random
import unittest

import brute
from earlystop.looks import all_counts
from earlystop.mixing import mixed
from earlystop.worths import priced, worths
from brute import value
from cases import Case
from rulesamples import FIRST, ON, SECOND, all_plain_rules, random_rule
from samples import COINS, DICE, SUITS, SURE, TRIALS, TWINS, one_at, pair, random_aim, random_prices, sizes, turn_trial

HALVES = ((1, 2), (1, 2))
ANY_BOUNDS = ((1, 9), (2, 9))
ONE_LOOK = (((0, 0), ON), ((0, 1), SECOND), ((1, 0), FIRST))


class Worths(Case):
    def test_most_nought(self):
        aim = (0, ANY_BOUNDS, HALVES, ())
        self.assertTold(worths(COINS, aim, ((3, 1), (5, 2))), (((0, 0), (5, 2)),))
        self.assertTold(worths(COINS, aim, ((2, 1), (5, 2))), (((0, 0), (2, 1)),))
        self.assertTold(worths(COINS, aim, ((0, 1), (7, 1))), (((0, 0), (0, 1)),))
        aim = (0, ((0, 1),) * 3, ((1, 1), (0, 1), (0, 1)), ())
        self.assertTold(worths(DICE, aim, ((1, 1), (2, 1), (3, 1))), (((0, 0, 0), (3, 1)),))

    def test_one_look_by_hand(self):
        # Behind a head: 4 times 1/2 beside 8 times 3/4; behind a tail: 4 times 1/2 beside 8 times 1/4.
        # At the noughts: 4, or 8, or 1/2 and 2 and 2.
        aim = (1, ANY_BOUNDS, HALVES, ((1, 2),))
        self.assertTold(worths(COINS, aim, ((4, 1), (8, 1))), (((0, 0), (4, 1)), ((0, 1), (2, 1)), ((1, 0), (2, 1))))
        # Behind a head: 6 times 1/2 beside 6 times 3/4; behind a tail: 6 times 1/2 beside 6 times 1/4.
        self.assertTold(worths(COINS, aim, ((6, 1), (6, 1))), (((0, 0), (5, 1)), ((0, 1), (3, 1)), ((1, 0), (3, 2))))
        dear = (1, ANY_BOUNDS, HALVES, ((2, 1),))
        self.assertTold(worths(COINS, dear, ((6, 1), (6, 1)))[0], ((0, 0), (6, 1)))

    def test_two_looks_by_hand(self):
        aim = (2, ANY_BOUNDS, ((1, 1), (0, 1)), ((1, 1), (0, 1)))
        told = worths(COINS, aim, ((16, 1), (16, 1)))
        # At the last: 16/4 beside 16 times 9/16, 3/16, 1/16; looking on behind one look costs nothing.
        self.assertTold(told, (
            ((0, 0), (12, 1)), ((0, 1), (7, 1)), ((1, 0), (4, 1)), ((0, 2), (4, 1)), ((1, 1), (3, 1)), ((2, 0), (1, 1))))

    def test_by_the_words(self):
        rng = random.Random(70)
        for k in range(60):
            trial = turn_trial(rng, k)
            aim = random_aim(rng, trial, rng.randint(0, 3))
            prices = random_prices(rng, trial)
            self.assertTold(worths(trial, aim, prices), brute.worths(trial, aim, prices))

    def test_prices_and_costs_of_nought(self):
        for trial in TRIALS:
            faces, ways = sizes(trial)
            aim = (2, ((0, 1),) * ways, one_at(ways, 0), ((0, 1), (0, 1)))
            nothing = ((0, 1),) * ways
            self.assertTold(worths(trial, aim, nothing), tuple((counts, (0, 1)) for counts in all_counts(faces, 2)))
            for prices in [((1, 1),) * ways, one_at(ways, 0), one_at(ways, ways - 1)]:
                self.assertTold(worths(trial, aim, prices), brute.worths(trial, aim, prices))

    def test_the_greatest_aims(self):
        rng = random.Random(71)
        for trial, most in [(COINS, 6), (SURE, 6), (DICE, 6), (TWINS, 6), (SUITS, 4)]:
            aim = random_aim(rng, trial, most)
            prices = random_prices(rng, trial)
            told = worths(trial, aim, prices)
            self.assertEqual([counts for counts, worth in told], all_counts(len(trial[0]), most))
            self.assertTold(told, brute.worths(trial, aim, prices))

    def test_bounds_change_nothing(self):
        prices = ((4, 1), (9, 2))
        told = worths(COINS, (2, ((0, 1), (1, 1)), HALVES, ((1, 9), (1, 7))), prices)
        self.assertTold(worths(COINS, (2, ((1, 2), (1, 3)), HALVES, ((1, 9), (1, 7))), prices), told)


class Priced(Case):
    def test_by_hand(self):
        aim = (1, ANY_BOUNDS, HALVES, ((1, 2),))
        self.assertTold(priced(COINS, ONE_LOOK, aim, ((6, 1), (6, 1))), (5, 1))
        self.assertTold(priced(COINS, (((0, 0), FIRST),), aim, ((6, 1), (7, 1))), (7, 1))
        self.assertTold(priced(COINS, (((0, 0), SECOND),), aim, ((6, 1), (7, 1))), (6, 1))
        self.assertTold(priced(COINS, ONE_LOOK, aim, ((0, 1), (0, 1))), (1, 2))

    def test_against_all_rows(self):
        rng = random.Random(72)
        for k in range(60):
            trial = turn_trial(rng, k)
            most = rng.randint(0, 3)
            rule = random_rule(rng, *sizes(trial), most, k % 3 > 0)
            aim, prices = random_aim(rng, trial, most), random_prices(rng, trial)
            self.assertTold(priced(trial, rule, aim, prices), pair(brute.priced(trial, rule, aim, prices)))

    def test_never_below_the_worth_of_the_noughts(self):
        rng = random.Random(73)
        for k in range(120):
            trial = turn_trial(rng, k)
            most = rng.randint(0, 3)
            aim, prices = random_aim(rng, trial, most), random_prices(rng, trial)
            least = value(worths(trial, aim, prices)[0][1])
            rules = [random_rule(rng, *sizes(trial), rng.randint(0, most), by_lots) for by_lots in (True, False, True)]
            for rule in rules + [mixed(rules[0], rules[1], (1, 3))]:
                self.assertGreaterEqual(value(priced(trial, rule, aim, prices)), least)

    def test_the_least_of_all_plain_rules_is_the_worth_of_the_noughts(self):
        rng = random.Random(74)
        for trial, most in [(COINS, 0), (COINS, 1), (COINS, 2), (COINS, 3), (SURE, 2), (TWINS, 1), (DICE, 1)]:
            rules = all_plain_rules(*sizes(trial), most)
            for k in range(3):
                aim, prices = random_aim(rng, trial, most), random_prices(rng, trial)
                least = min(value(priced(trial, rule, aim, prices)) for rule in rules)
                self.assertTold(worths(trial, aim, prices)[0][1], pair(least))


if __name__ == "__main__":
    unittest.main()
