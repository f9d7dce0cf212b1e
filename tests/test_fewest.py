"""Promises 46 and 47, what 5 says of papers, and the interface's row "Stage 13"."""

import copy
import itertools
import random
import unittest
from fractions import Fraction

import brute
from earlystop.checker import lets_paper
from earlystop.fewest import fewest, least_cost
from earlystop.mixing import mixed
from earlystop.rules import is_rule, most_of
from earlystop.turning import faces_turned, ways_turned
from brute import value
from cases import Case, replaced
from papers import HALVES, NOUGHTS, ONE_LOOK, STRICT, TIGHT, fault_of
from rulesamples import all_plain_rules, random_rule
from samples import (
    COINS, DICE, SUITS, SURE, TRIALS, TWINS, one_at, pair, random_aim, random_parts, random_trial, sizes, turn_trial,
)

# One look tells the way.
SIGNED = (("x", "y"), (("p", ((1, 1), (0, 1))), ("q", ((0, 1), (1, 1)))))


def random_case(rng, turn, most):
    trial = turn_trial(rng, turn)
    aim = random_aim(rng, trial, rng.randint(0, most))
    if rng.random() < 0.4:
        edges = [(0, 1), (1, 1), (1, 2), (1, 3), (2, 3)]
        aim = replaced(aim, 1, tuple(rng.choice(edges) for way in trial[1]))
    return trial, aim


def mixes_that_keep(points, bounds):
    """What each mix of at most three points (cost, wrong, wrong) costs that keeps both bounds and can't be parted."""
    for cost, *wrong in points:
        if all(share <= bound for share, bound in zip(wrong, bounds)):
            yield cost
    for one, other in itertools.combinations(points, 2):
        for way in (1, 2):
            if one[way] != other[way]:
                share = (bounds[way - 1] - other[way]) / (one[way] - other[way])
                mix = [share * a + (1 - share) * b for a, b in zip(one, other)]
                if 0 < share < 1 and all(part <= bound for part, bound in zip(mix[1:], bounds)):
                    yield mix[0]
    for a, b, c in itertools.combinations(points, 3):
        low = (a[1] - c[1]) * (b[2] - c[2]) - (b[1] - c[1]) * (a[2] - c[2])
        if low != 0:
            s = ((bounds[0] - c[1]) * (b[2] - c[2]) - (b[1] - c[1]) * (bounds[1] - c[2])) / low
            t = ((a[1] - c[1]) * (bounds[1] - c[2]) - (bounds[0] - c[1]) * (a[2] - c[2])) / low
            if s >= 0 and t >= 0 and s + t <= 1:
                yield s * a[0] + t * b[0] + (1 - s - t) * c[0]


class Papers(Case):
    def assertLeast(self, trial, aim):
        """The paper of trial and aim, let by, also by the document's words; and the least cost that of its rule."""
        with self.subTest(trial=trial, aim=aim):
            paper = fewest(trial, aim)
            self.assertIs(lets_paper(trial, aim, paper), True)
            self.assertIsNone(fault_of(trial, aim, paper))
            self.assertIn(paper[0], ("rule", "none"))
            told = least_cost(trial, aim)
            self.assertTold(told, None if paper[0] == "none" else pair(brute.cost(trial, paper[1], aim)))
            return paper


class ByHand(Papers):
    def test_one_look_is_just_enough(self):
        paper = self.assertLeast(COINS, TIGHT)
        # No other rule keeps these bounds.
        self.assertTold(paper[1], ONE_LOOK)
        self.assertTold(least_cost(COINS, TIGHT), (3, 1))

    def test_a_hair_less_and_none_keeps_them(self):
        for bounds in [((1, 2), (1, 5)), ((1, 2), (249, 998)), ((499, 999), (1, 4)), ((0, 1), (0, 1)), ((0, 1), (998, 999)),
                       ((998, 999), (0, 1))]:
            aim = replaced(TIGHT, 1, bounds)
            self.assertEqual(self.assertLeast(COINS, aim)[0], "none")
            self.assertIsNone(least_cost(COINS, aim))
        self.assertEqual(fewest(COINS, STRICT)[0], "none")

    def test_by_lots(self):
        # Half of the things are looked at: the other half is said the first way at once.
        aim = replaced(TIGHT, 1, ((1, 4), (5, 8)))
        self.assertTold(least_cost(COINS, aim), (3, 2))
        self.assertTold(least_cost(COINS, replaced(TIGHT, 1, ((1, 2), (1, 2)))), (0, 1))
        # Between a look and saying the second way at once: bounds of 3/4 and 1/8 are half and half.
        self.assertTold(least_cost(COINS, replaced(TIGHT, 1, ((3, 4), (1, 8)))), (3, 2))
        # A third of each of the three.
        self.assertTold(least_cost(COINS, replaced(TIGHT, 1, ((1, 2), (5, 12)))), (1, 1))

    def test_most_nought(self):
        for bounds, cost in [(HALVES, (0, 1)), (((1, 3), (2, 3)), (0, 1)), (((1, 3), (1, 2)), None), (((0, 1), (1, 1)), (0, 1)),
                             (((1, 1), (0, 1)), (0, 1)), (NOUGHTS, None), (((1, 1), (1, 1)), (0, 1))]:
            aim = (0, bounds, HALVES, ())
            self.assertLeast(COINS, aim)
            self.assertTold(least_cost(COINS, aim), cost)
        for bounds, cost in [(((2, 3),) * 3, (0, 1)), (((1, 2), (1, 2), (1, 1)), (0, 1)), (((1, 2), (2, 3), (2, 3)), None)]:
            aim = (0, bounds, one_at(3, 1), ())
            self.assertLeast(DICE, aim)
            self.assertTold(least_cost(DICE, aim), cost)

    def test_a_look_that_tells_the_way(self):
        for most in range(1, 5):
            aim = (most, NOUGHTS, ((1, 3), (2, 3)), ((5, 2),) + ((1, 1),) * (most - 1))
            self.assertLeast(SIGNED, aim)
            self.assertTold(least_cost(SIGNED, aim), (5, 2))
            # A bound of 1/5 for each lets be said two of five without a look.
            self.assertTold(least_cost(SIGNED, replaced(aim, 1, ((1, 5), (1, 5)))), (3, 2))
        self.assertIsNone(least_cost(SIGNED, (0, NOUGHTS, HALVES, ())))
        # The second look is free; the first one isn't.
        self.assertTold(least_cost(SIGNED, (2, NOUGHTS, HALVES, ((1, 7), (0, 1)))), (1, 7))

    def test_ways_that_no_look_tells_apart(self):
        for most in range(4):
            for bounds, cost in [(HALVES, (0, 1)), (((1, 3), (2, 3)), (0, 1)), (((1, 3), (1, 2)), None), (NOUGHTS, None)]:
                aim = (most, bounds, HALVES, ((1, 1),) * most)
                self.assertLeast(TWINS, aim)
                self.assertTold(least_cost(TWINS, aim), cost)

    def test_mixes_with_noughts_pay_for_one_way_alone(self):
        # The first way's things end behind a tail; those of the second way alone look on, and nobody pays.
        trial = (("x", "y"), (("p", ((1, 1), (0, 1))), ("q", ((1, 2), (1, 2)))))
        for mix, cost in [(one_at(2, 0), (2, 1)), (one_at(2, 1), (3, 2)), (HALVES, (7, 4))]:
            aim = (2, ((0, 1), (1, 4)), mix, ((1, 1), (1, 1)))
            self.assertLeast(trial, aim)
            self.assertTold(least_cost(trial, aim), cost)


class BySearch(Papers):
    def test_against_all_mixes_of_plain_rules(self):
        rng = random.Random(100)
        seen = set()
        for k in range(40):
            trial = (COINS, SIGNED, random_trial(rng, 2, 2))[k % 3]
            most = k % 3 if k % 7 else 2
            aim = random_aim(rng, trial, most)
            points = sorted({(brute.cost(trial, rule, aim), *brute.wrong(trial, rule))
                             for rule in all_plain_rules(2, 2, most)})
            # A point that another one is no worse than in anything is left out.
            points = [one for one in points if not any(
                other != one and all(a <= b for a, b in zip(other, one)) for other in points)]
            costs = list(mixes_that_keep(points, [value(bound) for bound in aim[1]]))
            told = least_cost(trial, aim)
            seen.add(told is None)
            self.assertTold(told, pair(Fraction(min(costs))) if costs else None)
        self.assertEqual(seen, {True, False})

    def test_against_prices_of_all_plain_rules(self):
        # No plain rule is priced below the paper's sum, so no mix of them is either.
        rng = random.Random(101)
        for trial, most in [(COINS, 3), (SURE, 2), (TWINS, 1), (DICE, 1)]:
            rules = all_plain_rules(*sizes(trial), most)
            for k in range(3):
                aim = random_aim(rng, trial, most)
                paper = self.assertLeast(trial, aim)
                prices = paper[-2]
                allowed = sum(value(price) * value(bound) for price, bound in zip(prices, aim[1]))
                if paper[0] == "none":
                    free = replaced(aim, 3, ((0, 1),) * most)
                    self.assertTrue(all(brute.priced(trial, rule, free, prices) > allowed for rule in rules))
                else:
                    least = value(least_cost(trial, aim)) + allowed
                    self.assertTrue(all(brute.priced(trial, rule, aim, prices) >= least for rule in rules))

    def test_rules_made_by_chance_never_cost_less(self):
        rng = random.Random(102)
        kept = 0
        for k in range(60):
            trial, aim = random_case(rng, k, 3)
            told = least_cost(trial, aim)
            rules = [random_rule(rng, *sizes(trial), rng.randint(0, aim[0]), by_lots) for by_lots in (False, True) * 3]
            rules += [mixed(one, other, (1, 3)) for one, other in zip(rules, rules[1:])]
            for rule in rules:
                if all(share <= value(bound) for share, bound in zip(brute.wrong(trial, rule), aim[1])):
                    kept += 1
                    self.assertLessEqual(value(told), brute.cost(trial, rule, aim))
        self.assertGreater(kept, 50)

    def test_bounds_that_a_rule_just_keeps(self):
        # Bounds that are what a rule's own wrongs are: it keeps them, and the least cost is no greater than its cost.
        rng = random.Random(103)
        for k in range(60):
            trial = turn_trial(rng, k)
            aim = random_aim(rng, trial, rng.randint(0, 3))
            rule = random_rule(rng, *sizes(trial), rng.randint(0, aim[0]), k % 3 == 0)
            aim = replaced(aim, 1, tuple(pair(share) for share in brute.wrong(trial, rule)))
            paper = self.assertLeast(trial, aim)
            self.assertEqual(paper[0], "rule")
            self.assertLessEqual(value(least_cost(trial, aim)), brute.cost(trial, rule, aim))

    def test_made_by_chance(self):
        rng = random.Random(104)
        words = []
        for k in range(150):
            paper = self.assertLeast(*random_case(rng, k, 3))
            words.append(paper[0])
        self.assertGreater(min(words.count("rule"), words.count("none")), 30)


class Edges(Papers):
    def test_bounds_of_nought_and_of_one(self):
        for trial in TRIALS + [SIGNED]:
            ways = len(trial[1])
            for bounds in itertools.islice(itertools.product(((0, 1), (1, 1)), repeat=ways), 16):
                for mix in (one_at(ways, 0), one_at(ways, ways - 1)):
                    self.assertLeast(trial, (2, bounds, mix, ((1, 2), (2, 3))))
            self.assertTold(least_cost(trial, (2, ((1, 1),) * ways, one_at(ways, 0), ((1, 2), (2, 3)))), (0, 1))

    def test_costs_of_nought(self):
        rng = random.Random(105)
        for k in range(40):
            trial, aim = random_case(rng, k, 3)
            free = replaced(aim, 3, ((0, 1),) * aim[0])
            paper = self.assertLeast(trial, free)
            self.assertTold(least_cost(trial, free), None if paper[0] == "none" else (0, 1))
            # Costs don't hang on whether bounds can be kept.
            self.assertEqual(fewest(trial, aim)[0], paper[0])

    def test_the_greatest_aims(self):
        rng = random.Random(106)
        for trial, most in [(COINS, 6), (SURE, 6), (DICE, 6), (TWINS, 6), (SUITS, 4)]:
            ways = len(trial[1])
            for bounds in [((1, 3),) * ways, ((1, 2),) * ways, ((1, 5),) * ways]:
                aim = (most, bounds, random_parts(rng, ways), ((1, 1),) * most)
                paper = self.assertLeast(trial, aim)
                if paper[0] == "rule":
                    self.assertIs(is_rule(*sizes(trial), paper[1]), True)
                    self.assertLessEqual(most_of(paper[1]), most)

    def test_numbers_of_three_figures(self):
        trial = (("a", "b", "c"), (
            ("p", ((100, 997), (300, 997), (597, 997))), ("q", ((491, 991), (400, 991), (100, 991))),
            ("r", ((0, 1), (500, 983), (483, 983))), ("s", ((333, 977), (333, 977), (311, 977)))))
        mix = ((100, 971), (300, 971), (500, 971), (71, 971))
        costs = ((1, 999), (998, 999), (1, 967), (953, 2), (7, 947), (1, 941))
        words = []
        for bounds in [((1, 2),) * 4, ((431, 997), (433, 998), (439, 999), (443, 991)), ((1, 999),) * 4]:
            aim = (6, bounds, mix, costs)
            paper = fewest(trial, aim)
            self.assertIs(lets_paper(trial, aim, paper), True)
            words.append(paper[0])
        self.assertEqual(set(words), {"rule", "none"})


class HowItGoes(Papers):
    def assertNoGreater(self, one, other):
        """None is more than any."""
        if other is not None:
            self.assertIsNotNone(one)
            self.assertLessEqual(value(one), value(other))

    def test_never_grows_as_a_bound_grows(self):
        rng = random.Random(107)
        for k in range(50):
            trial, aim = random_case(rng, k, 3)
            way = rng.randrange(len(trial[1]))
            told = []
            for step in range(5):
                bound = value(aim[1][way]) + (1 - value(aim[1][way])) * Fraction(step, 4)
                told.append(least_cost(trial, replaced(aim, 1, replaced(aim[1], way, pair(bound)))))
            for one, other in zip(told, told[1:]):
                self.assertNoGreater(other, one)

    def test_bounds_mixed(self):
        rng = random.Random(108)
        both = 0
        for k in range(60):
            trial, aim = random_case(rng, k, 3)
            other = replaced(aim, 1, tuple(pair(Fraction(rng.randint(2, 9), 9)) for way in trial[1]))
            s = Fraction(rng.randint(0, 4), 4)
            bounds = tuple(pair(s * value(a) + (1 - s) * value(b)) for a, b in zip(aim[1], other[1]))
            one_cost, other_cost = least_cost(trial, aim), least_cost(trial, other)
            if one_cost is not None and other_cost is not None:
                both += 1
                mix = pair(s * value(one_cost) + (1 - s) * value(other_cost))
                self.assertNoGreater(least_cost(trial, replaced(aim, 1, bounds)), mix)
        self.assertGreater(both, 15)

    def test_ways_or_faces_turned(self):
        rng = random.Random(109)
        for k in range(50):
            trial, aim = random_case(rng, k, 3)
            faces, ways = sizes(trial)
            told = least_cost(trial, aim)
            order = tuple(rng.sample(range(ways), ways))
            most, bounds, mix, costs = aim
            turned = (most, tuple(bounds[w] for w in order), tuple(mix[w] for w in order), costs)
            self.assertTold(least_cost(ways_turned(trial, order), turned), told)
            self.assertTold(least_cost(faces_turned(trial, tuple(rng.sample(range(faces), faces))), aim), told)

    def test_more_looks_never_cost_more(self):
        rng = random.Random(110)
        for k in range(30):
            trial, aim = random_case(rng, k, 2)
            longer = (aim[0] + 1,) + aim[1:3] + (aim[3] + ((1, 1),),)
            self.assertNoGreater(least_cost(trial, longer), least_cost(trial, aim))

    def test_what_is_handed_in_stays_and_each_answer_holds_again(self):
        rng = random.Random(111)
        asked = [random_case(rng, k, 2) for k in range(12)]
        kept = copy.deepcopy(asked)
        told = [(fewest(*one)[0], least_cost(*one)) for one in asked]
        for one, (word, cost) in list(zip(asked, told))[::-1]:
            self.assertEqual(self.assertLeast(*one)[0], word)
            self.assertTold(least_cost(*one), cost)
        self.assertTold(asked, kept)


if __name__ == "__main__":
    unittest.main()
