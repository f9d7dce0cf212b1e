"""Promise 41, what 5 says of a plain rule for prices, and the interface's row "Stage 11, best"."""

import copy
import itertools
import random
import unittest

import brute
from earlystop.best import best_bounds, best_rule
from earlystop.bounds import bounds_of, rule_by
from earlystop.rules import is_plain, is_rule, most_of
from brute import value
from cases import Case
from rulesamples import FIRST, ON, SECOND
from samples import COINS, DICE, SUITS, SURE, TRIALS, TWINS, one_at, random_aim, random_prices, sizes, turn_trial

HALVES = ((1, 2), (1, 2))
ANY_BOUNDS = ((1, 9), (2, 9))
ONE_LOOK = (((0, 0), ON), ((0, 1), SECOND), ((1, 0), FIRST))
SHARES = ((0, 1), (1, 4), (1, 2), (1, 1))


def two_ways(low, high):
    """A trial of two faces and two ways, told their shares of the second face."""
    return (("x", "y"), tuple((name, ((one[1] - one[0], one[1]), one)) for name, one in (("p", low), ("q", high))))


ORDERED = [two_ways(*both) for both in itertools.combinations_with_replacement(SHARES, 2)]


class Best(Case):
    def assertBest(self, trial, aim, prices, rule):
        faces, ways = sizes(trial)
        self.assertIs(is_rule(faces, ways, rule), True)
        self.assertIs(is_plain(rule), True)
        self.assertLessEqual(most_of(rule), aim[0])
        worth = brute.worths(trial, aim, prices)[0][1]
        self.assertEqual(brute.priced(trial, rule, aim, prices), value(worth))

    def assertByBounds(self, rule):
        bounds = bounds_of(rule)
        self.assertIsNotNone(bounds)
        self.assertTold(rule_by(bounds), rule)


class BestRule(Best):
    def test_by_hand(self):
        aim = (1, ANY_BOUNDS, HALVES, ((1, 2),))
        self.assertTold(best_rule(COINS, aim, ((6, 1), (6, 1))), ONE_LOOK)
        # Dear looks: it says the dearer way's name at once.
        dear = (1, ANY_BOUNDS, HALVES, ((3, 1),))
        self.assertTold(best_rule(COINS, dear, ((6, 1), (7, 1))), (((0, 0), SECOND),))
        self.assertTold(best_rule(COINS, dear, ((7, 1), (6, 1))), (((0, 0), FIRST),))
        # Behind two looks of no cost: 16/4 beside 16 times 9/16, 3/16, 1/16 is said by how many heads there are.
        free = (2, ANY_BOUNDS, ((1, 1), (0, 1)), ((0, 1), (0, 1)))
        told = dict(best_rule(COINS, free, ((16, 1), (16, 1))))
        self.assertTold([told[counts] for counts in ((0, 2), (1, 1))], [SECOND, FIRST])

    def test_most_nought(self):
        aim = (0, ((0, 1),) * 3, one_at(3, 0), ())
        for way in range(3):
            prices = tuple((5, 1) if k == way else (1, 3) for k in range(3))
            self.assertTold(best_rule(DICE, aim, prices), (((0, 0, 0), one_at(4, 1 + way)),))

    def test_priced_just_at_the_worth_of_the_noughts(self):
        rng = random.Random(80)
        for k in range(150):
            trial = turn_trial(rng, k)
            aim, prices = random_aim(rng, trial, rng.randint(0, 4)), random_prices(rng, trial)
            with self.subTest(trial=trial, aim=aim, prices=prices):
                self.assertBest(trial, aim, prices, best_rule(trial, aim, prices))

    def test_the_greatest_aims(self):
        rng = random.Random(81)
        for trial, most in [(COINS, 6), (COINS, 5), (SURE, 6), (DICE, 6), (TWINS, 6), (SUITS, 4)]:
            for k in range(3):
                aim, prices = random_aim(rng, trial, most), random_prices(rng, trial)
                self.assertBest(trial, aim, prices, best_rule(trial, aim, prices))

    def test_numbers_of_three_figures(self):
        trial = (("a", "b"), (("p", ((1, 997), (996, 997))), ("q", ((500, 991), (491, 991))), ("r", ((0, 1), (1, 1)))))
        aim = (4, ((1, 999),) * 3, ((1, 3), (331, 999), (335, 999)), ((1, 977), (999, 983), (1, 999), (7, 971)))
        for prices in [((999, 1), (998, 7), (1, 999)), ((1, 1), (500, 999), (499, 998)), ((3, 1), (3, 1), (3, 1))]:
            self.assertBest(trial, aim, prices, best_rule(trial, aim, prices))

    def test_prices_and_costs_of_nought(self):
        for trial in TRIALS:
            ways = len(trial[1])
            for costs in [((0, 1), (0, 1)), ((0, 1), (1, 2)), ((1, 2), (0, 1))]:
                for prices in [((0, 1),) * ways, ((1, 1),) * ways, one_at(ways, 0), one_at(ways, ways - 1)]:
                    for mix in [one_at(ways, 0), one_at(ways, ways - 1)]:
                        aim = (2, ((0, 1),) * ways, mix, costs)
                        self.assertBest(trial, aim, prices, best_rule(trial, aim, prices))

    def test_what_is_handed_in_stays_and_each_answer_holds_again(self):
        rng = random.Random(82)
        asked = []
        for k in range(10):
            trial = turn_trial(rng, k)
            asked.append((trial, random_aim(rng, trial, 3), random_prices(rng, trial)))
        kept = copy.deepcopy(asked)
        for trial, aim, prices in asked + asked[::-1]:
            self.assertBest(trial, aim, prices, best_rule(trial, aim, prices))
        self.assertTold(asked, kept)


class BestBounds(Best):
    def assertBestBounds(self, trial, aim, prices):
        with self.subTest(trial=trial, aim=aim, prices=prices):
            rule = best_bounds(trial, aim, prices)
            self.assertBest(trial, aim, prices, rule)
            self.assertByBounds(rule)

    def test_by_hand(self):
        aim = (1, ANY_BOUNDS, HALVES, ((1, 2),))
        self.assertTold(best_bounds(COINS, aim, ((6, 1), (6, 1))), ONE_LOOK)
        dear = (1, ANY_BOUNDS, HALVES, ((3, 1),))
        self.assertTold(best_bounds(COINS, dear, ((6, 1), (7, 1))), (((0, 0), SECOND),))
        self.assertTold(best_bounds(COINS, dear, ((7, 1), (6, 1))), (((0, 0), FIRST),))

    def test_all_kinds_of_ways(self):
        # Faces that one way or both never show, ways that are alike: there many counts are shown by no way.
        for trial, most in itertools.product(ORDERED, range(5)):
            for prices in itertools.product(((0, 1), (1, 1), (9, 1)), repeat=2):
                for costs in [((0, 1),) * most, ((1, 9),) * most, ((1, 2), (0, 1), (1, 20), (3, 1))[:most]]:
                    self.assertBestBounds(trial, (most, ANY_BOUNDS, HALVES, costs), prices)

    def test_mixes_of_one_way_alone(self):
        for trial, mix in itertools.product(ORDERED, [one_at(2, 0), one_at(2, 1)]):
            for prices in itertools.product(((0, 1), (2, 1)), repeat=2):
                self.assertBestBounds(trial, (3, ANY_BOUNDS, mix, ((1, 4), (1, 9), (1, 5))), prices)

    def test_made_by_chance(self):
        rng = random.Random(83)
        for k in range(150):
            shares = sorted((rng.choice(SHARES + ((1, 3), (2, 5), (7, 9))) for way in range(2)), key=value)
            trial = two_ways(*shares)
            self.assertBestBounds(trial, random_aim(rng, trial, rng.randint(0, 4)), random_prices(rng, trial))

    def test_the_greatest_aims(self):
        rng = random.Random(84)
        for trial in ORDERED:
            for most in (5, 6):
                self.assertBestBounds(trial, random_aim(rng, trial, most), random_prices(rng, trial))

    def test_what_is_handed_in_stays_and_each_answer_holds_again(self):
        rng = random.Random(85)
        asked = [(trial, random_aim(rng, trial, 3), random_prices(rng, trial)) for trial in ORDERED]
        kept = copy.deepcopy(asked)
        for one in asked + asked[::-1]:
            self.assertBestBounds(*one)
        self.assertTold(asked, kept)


if __name__ == "__main__":
    unittest.main()
