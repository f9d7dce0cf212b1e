"""Promises 43 and 44, what 5 says of papers, and the interface's row "Stage 12"."""

import copy
import itertools
import random
import unittest

import brute
from earlystop.checker import lets_paper
from earlystop.errors import NoPaper
from earlystop.fewest import fewest
from earlystop.looks import all_counts
from earlystop.mixing import mixed
from brute import value
from cases import Case, bent, replaced
from papers import (
    HALVES, NOUGHTS, ONE_LOOK, STRICT, STRICT_PAPER, TIGHT, TIGHT_PAPER, TIGHT_PRICES, fault_of,
)
from rulesamples import FIRST, ON, SECOND, all_plain_rules
from samples import COINS, DICE, SUITS, SURE, TWINS, one_at, pair, random_aim, random_prices, sizes, turn_trial
from things import ODD_THINGS

EITHER = ((0, 1), (1, 2), (1, 2))
LONG = 10 ** 1000 + 9
# One rule for most of two: two looks and the second way behind two heads.
TWO_LOOKS = (((0, 0), ON), ((0, 1), ON), ((1, 0), FIRST), ((0, 2), SECOND), ((1, 1), FIRST))


def worths_of(paper):
    return paper[-1]


def with_worth(paper, place, worth):
    worths = worths_of(paper)
    return paper[:-1] + (replaced(worths, place, (worths[place][0], worth)),)


class Checks(Case):
    def assertFault(self, trial, aim, thing, word, at):
        self.assertRefused(NoPaper, {"word": word, "at": at}, lets_paper, trial, aim, thing)

    def assertLet(self, trial, aim, thing):
        self.assertIs(lets_paper(trial, aim, thing), True)

    def assertAsAsked(self, trial, aim, thing):
        fault = fault_of(trial, aim, thing)
        with self.subTest(repr(thing)[:300]):
            if fault is None:
                self.assertLet(trial, aim, thing)
                # What follows of it: no worth is greater than that of 40.
                costs = aim[3] if thing[0] == "rule" else ((0, 1),) * aim[0]
                asked = brute.worths(trial, replaced(aim, 3, costs), thing[-2])
                self.assertTrue(all(value(one[1]) <= value(other[1]) for one, other in zip(thing[-1], asked)))
            else:
                self.assertFault(trial, aim, thing, *fault)


class LetBy(Checks):
    def test_by_hand(self):
        self.assertLet(COINS, TIGHT, TIGHT_PAPER)
        self.assertLet(COINS, STRICT, STRICT_PAPER)

    def test_most_nought(self):
        aim = (0, HALVES, HALVES, ())
        self.assertLet(COINS, aim, ("rule", (((0, 0), EITHER),), NOUGHTS, (((0, 0), (0, 1)),)))
        aim = (0, ((1, 3), (1, 3)), HALVES, ())
        self.assertLet(COINS, aim, ("none", ((1, 1), (1, 1)), (((0, 0), (1, 1)),)))
        # Three ways: saying the first leaves the prices of both others.
        aim = (0, ((1, 2), (1, 2), (1, 2)), one_at(3, 0), ())
        self.assertLet(DICE, aim, ("none", ((1, 1),) * 3, (((0, 0, 0), (2, 1)),)))

    def test_papers_that_are_not_those_of_fewest(self):
        # Another price that fits: the second way's is free to grow, as long as a tail still says the first.
        other = ("rule", ONE_LOOK, ((15, 1), (18, 1)), (((0, 0), (15, 1)), ((0, 1), (15, 2)), ((1, 0), (9, 2))))
        self.assertLet(COINS, TIGHT, other)
        # A worth that is lower than it need be, where nothing hangs on it.
        loose = (1, ((1, 1), (1, 1)), HALVES, ((3, 1),))
        low = (((0, 0), (0, 1)), ((0, 1), (-7, 2)), ((1, 0), (-10 ** 60, 1)))
        self.assertFault(COINS, loose, ("rule", (((0, 0), FIRST),), NOUGHTS, low), "worth", (0, 0))
        low = (((0, 0), (0, 1)), ((0, 1), (-2, 1)), ((1, 0), (-1, 1)))
        self.assertLet(COINS, loose, ("rule", (((0, 0), FIRST),), NOUGHTS, low))
        self.assertLet(COINS, loose, ("rule", (((0, 0), SECOND),), NOUGHTS, low))
        self.assertLet(COINS, loose, ("rule", (((0, 0), EITHER),), NOUGHTS, low))
        # A wall of noughts: no price at all, a worth of nought.
        free = (1, ((1, 2), (1, 4)), HALVES, ((0, 1),))
        nothing = tuple((counts, (0, 1)) for counts in all_counts(2, 1))
        self.assertLet(COINS, free, ("rule", ONE_LOOK, NOUGHTS, nothing))

    def test_many_times_the_prices_of_none(self):
        for factor in (2, 3, 10 ** 30, LONG):
            prices = tuple((factor * n, d) for n, d in TIGHT_PRICES)
            worths = tuple((counts, (factor * n, d)) for counts, (n, d) in worths_of(STRICT_PAPER))
            self.assertLet(COINS, STRICT, ("none", prices, worths))
            self.assertFault(COINS, TIGHT, ("none", prices, worths), "sum", None)

    def test_rules_of_numbers_of_many_figures(self):
        # Half of it by one word, half by the other, but for a hair.
        hair = ((0, 1), (LONG // 2, LONG), (LONG - LONG // 2, LONG))
        aim = (0, ((1, 1), (1, 1)), HALVES, ())
        self.assertLet(COINS, aim, ("rule", (((0, 0), hair),), NOUGHTS, (((0, 0), (0, 1)),)))
        self.assertFault(COINS, (0, HALVES, HALVES, ()), ("rule", (((0, 0), hair),), NOUGHTS, (((0, 0), (0, 1)),)),
                         "wrong", 0)
        rule = mixed(ONE_LOOK, (((0, 0), FIRST),), (LONG - 1, LONG))
        nothing = tuple((counts, (0, 1)) for counts in all_counts(2, 1))
        free = (1, ((1, 2), (1, 1)), HALVES, ((0, 1),))
        self.assertLet(COINS, free, ("rule", rule, NOUGHTS, nothing))
        self.assertFault(COINS, (1, ((1, 2), (1, 4)), HALVES, ((0, 1),)), ("rule", rule, NOUGHTS, nothing), "wrong", 1)

    def test_two_rules_of_the_same_cost_mixed(self):
        # All bounds are loose: each of both is right at no price, and so is what is mixed of them.
        loose = (1, ((1, 1), (1, 1)), HALVES, ((0, 1),))
        nothing = tuple((counts, (0, 1)) for counts in all_counts(2, 1))
        for rule in [ONE_LOOK, (((0, 0), SECOND),), mixed(ONE_LOOK, (((0, 0), SECOND),), (1, 3))]:
            self.assertLet(COINS, loose, ("rule", rule, NOUGHTS, nothing))

    def test_what_is_let_by_is_so(self):
        # Against every plain rule: none is priced below the worth of the noughts, whatever is let by.
        for most in (1, 2):
            rules = all_plain_rules(2, 2, most)
            rng = random.Random(90 + most)
            for k in range(12):
                trial = COINS if k % 2 else (("x", "y"), (("p", ((1, 1), (0, 1))), ("q", ((2, 5), (3, 5)))))
                aim = random_aim(rng, trial, most)
                paper = fewest(trial, aim)
                self.assertLet(trial, aim, paper)
                prices, at_noughts = paper[-2], value(paper[-1][0][1])
                free = aim if paper[0] == "rule" else replaced(aim, 3, ((0, 1),) * most)
                self.assertTrue(all(brute.priced(trial, rule, free, prices) >= at_noughts for rule in rules))


class Shape(Checks):
    def test_odd_things(self):
        things = ODD_THINGS + [
            ("rule",), ("none",), "rule", "none", ("rule", None, None, None), ("none", None, None),
            ("rule", ONE_LOOK, TIGHT_PRICES), ("none", ONE_LOOK, TIGHT_PRICES, worths_of(TIGHT_PAPER)),
            ("rule",) + STRICT_PAPER[1:], ("none",) + TIGHT_PAPER[1:], ("Rule",) + TIGHT_PAPER[1:],
            ("RULE",) + TIGHT_PAPER[1:], ("",) + TIGHT_PAPER[1:], (None,) + TIGHT_PAPER[1:], (True,) + TIGHT_PAPER[1:],
            (["rule"],) + TIGHT_PAPER[1:], TIGHT_PAPER[1:], TIGHT_PAPER + (None,), STRICT_PAPER + ((),),
            {"rule": TIGHT_PAPER}, [TIGHT_PAPER], (TIGHT_PAPER,),
        ]
        for thing in things:
            with self.subTest(repr(thing)[:200]):
                self.assertFault(COINS, TIGHT, thing, "shape", None)

    def test_bent_in_one_place(self):
        for aim, paper in [(TIGHT, TIGHT_PAPER), (STRICT, STRICT_PAPER)]:
            for place in (len(paper) - 2, len(paper) - 1):
                for part in bent(paper[place]):
                    with self.subTest(repr(part)[:200]):
                        self.assertFault(COINS, aim, replaced(paper, place, part), "shape", None)
            for thing in bent(paper[0]):
                self.assertFault(COINS, aim, (thing,) + paper[1:], "shape", None)
            self.assertFault(COINS, aim, list(paper), "shape", None)

    def test_prices(self):
        for prices in [
            (), ((16, 1),), ((16, 1),) * 3, ((16, 1), (-1, 1)), ((-1, 2), (16, 1)), ((16, 1), (2, 4)), ((0, 2), (16, 1)),
            ((16, 1), (16, 0)), ((16, 1), (16, -1)), ((16, 1), 16), ((16, 1), "16"), ((True, 1), (16, 1)), None,
        ]:
            self.assertFault(COINS, TIGHT, replaced(TIGHT_PAPER, 2, prices), "shape", None)
            self.assertFault(COINS, STRICT, replaced(STRICT_PAPER, 1, prices), "shape", None)

    def test_worths(self):
        for aim, paper in [(TIGHT, TIGHT_PAPER), (STRICT, STRICT_PAPER)]:
            worths = worths_of(paper)
            first, second, third = worths
            for wrong in [
                (), worths[1:], worths[:-1], (first, third), worths + (third,), (first, first, second, third),
                (first, third, second), (second, first, third), worths + (((0, 2), (0, 1)),),
                (first, second, ((2, 0), (4, 1))), (first, second, ((1, 0, 0), (4, 1))), (first, second, ((1,), (4, 1))),
                (first, second, ((True, 0), (4, 1))), (first, second, ([1, 0], (4, 1))), (first, second, [(1, 0), (4, 1)]),
                (first, second, ((1, 0), (8, 2))), (first, second, ((1, 0), 4)), (first, second, ((1, 0), (4, -1))),
                (first, second, ((1, 0), (-4, -1))), (first, second, ((1, 0), (4, 0))), (first, second, ((1, 0),)),
                (first, second, ((1, 0), (4, 1), None)), (first, second, None), list(worths), dict(worths), None,
                (first, second, ((1, -1), (4, 1))), (first, ((0, True), second[1]), third),
            ]:
                with self.subTest(repr(wrong)):
                    self.assertFault(COINS, aim, paper[:-1] + (wrong,), "shape", None)

    def test_another_most(self):
        self.assertFault(COINS, (0, TIGHT[1], HALVES, ()), TIGHT_PAPER, "shape", None)
        self.assertFault(COINS, (2, TIGHT[1], HALVES, ((3, 1), (3, 1))), TIGHT_PAPER, "shape", None)

    def test_another_trial(self):
        aim = (1, ((1, 2), (1, 4), (1, 1)), ((1, 3),) * 3, ((3, 1),))
        self.assertFault(SURE, aim, TIGHT_PAPER, "shape", None)
        self.assertFault(TWINS, TIGHT, TIGHT_PAPER, "shape", None)

    def test_worths_below_nought_have_the_shape(self):
        self.assertFault(COINS, TIGHT, with_worth(TIGHT_PAPER, 1, (-8, 1)), "worth", (0, 0))


class Rule(Checks):
    def test_no_rule(self):
        for rule in [None, (), [], {}, 0, True, "rule", "", ONE_LOOK[:2], ONE_LOOK[1:], ONE_LOOK[::-1], list(ONE_LOOK),
                     ONE_LOOK + (((0, 2), FIRST),), (((0, 0, 0), (ON + ((0, 1),))),), (((0, 0), ON),), TIGHT_PAPER,
                     (((0, 0), FIRST + ((0, 1),)),), dict(ONE_LOOK), (((0, 0), ((0, 1), (2, 2), (0, 1))),)]:
            with self.subTest(repr(rule)[:200]):
                self.assertFault(COINS, TIGHT, replaced(TIGHT_PAPER, 1, rule), "rule", None)
        for rule in bent(ONE_LOOK):
            self.assertFault(COINS, TIGHT, replaced(TIGHT_PAPER, 1, rule), "rule", None)

    def test_beyond_the_most(self):
        self.assertFault(COINS, TIGHT, replaced(TIGHT_PAPER, 1, TWO_LOOKS), "most", (0, 2))
        aim = (0, ((1, 1), (1, 1)), HALVES, ())
        self.assertFault(COINS, aim, ("rule", TWO_LOOKS, NOUGHTS, (((0, 0), (0, 1)),)), "most", (0, 1))
        far = tuple(((k, 0), FIRST if k == 12 else ON) for k in range(13))
        rest = tuple(((k, 1), FIRST) for k in range(12))
        rule = tuple(sorted(far + rest, key=lambda entry: (sum(entry[0]), entry[0])))
        self.assertFault(COINS, TIGHT, replaced(TIGHT_PAPER, 1, rule), "most", (1, 1))

    def test_wrong(self):
        self.assertFault(COINS, replaced(TIGHT, 1, ((49, 100), (1, 4))), TIGHT_PAPER, "wrong", 0)
        self.assertFault(COINS, replaced(TIGHT, 1, ((1, 2), (6, 25))), TIGHT_PAPER, "wrong", 1)
        self.assertFault(COINS, replaced(TIGHT, 1, NOUGHTS), TIGHT_PAPER, "wrong", 0)
        self.assertFault(COINS, TIGHT, replaced(TIGHT_PAPER, 1, (((0, 0), FIRST),)), "wrong", 1)
        self.assertFault(COINS, TIGHT, replaced(TIGHT_PAPER, 1, (((0, 0), SECOND),)), "wrong", 0)
        self.assertFault(COINS, TIGHT, replaced(TIGHT_PAPER, 1, (((0, 0), EITHER),)), "wrong", 1)


class WorthAndSum(Checks):
    def test_a_worth_above_one_of_the_sums(self):
        for aim, paper in [(TIGHT, TIGHT_PAPER), (STRICT, STRICT_PAPER)]:
            for place, (counts, worth) in enumerate(worths_of(paper)):
                higher = pair(value(worth) + brute.Fraction(1, 10 ** 50))
                # A higher worth behind is no fault of the noughts: looking on is only worth more.
                self.assertFault(COINS, aim, with_worth(paper, place, higher), "worth", counts)

    def test_above_looking_on_alone(self):
        # Looking on is the least at the noughts: a lower worth behind is then the noughts' fault.
        for aim, paper in [(TIGHT, TIGHT_PAPER), (STRICT, STRICT_PAPER)]:
            for place in (1, 2):
                lower = pair(value(worths_of(paper)[place][1]) - brute.Fraction(1, 10 ** 50))
                self.assertFault(COINS, aim, with_worth(paper, place, lower), "worth", (0, 0))

    def test_costs_are_nought_for_none_alone(self):
        # With the cost of 3 the worth of the noughts of none would be let by, too, as 15.
        dear = with_worth(STRICT_PAPER, 0, (15, 1))
        self.assertFault(COINS, STRICT, dear, "worth", (0, 0))
        self.assertFault(COINS, TIGHT, with_worth(TIGHT_PAPER, 0, (12, 1)), "sum", None)

    def test_each_way_is_looked_at(self):
        # The first way may be said for 16 times 3/4, the second one for 16/2: 10 is above the second alone.
        for worth in ((10, 1), (17, 2)):
            self.assertFault(COINS, TIGHT, with_worth(TIGHT_PAPER, 1, worth), "worth", (0, 1))
            self.assertFault(COINS, TIGHT, with_worth(TIGHT_PAPER, 2, worth), "worth", (1, 0))
        trial = (("x", "y"), tuple((name, ((1, 2), (1, 2))) for name in "abc"))
        aim = (0, ((1, 2),) * 3, one_at(3, 2), ())
        for dear in range(3):
            prices = tuple((9, 1) if way == dear else (1, 1) for way in range(3))
            # Saying the dear one leaves 2, another one 10.
            self.assertFault(trial, aim, ("none", prices, (((0, 0), (3, 1)),)), "worth", (0, 0))
            self.assertFault(trial, aim, ("none", prices, (((0, 0), (2, 1)),)), "sum", None)

    def test_the_sum_of_a_rule(self):
        self.assertFault(COINS, TIGHT, with_worth(TIGHT_PAPER, 0, (14, 1)), "sum", None)
        self.assertFault(COINS, TIGHT, with_worth(TIGHT_PAPER, 0, (-15, 1)), "sum", None)
        # A bound that isn't used up has no price.
        loose = replaced(TIGHT, 1, ((1, 2), (1, 3)))
        self.assertFault(COINS, loose, TIGHT_PAPER, "sum", None)
        # A rule that costs more than need be.
        free = (1, ((1, 1), (1, 1)), HALVES, ((3, 1),))
        nothing = tuple((counts, (0, 1)) for counts in all_counts(2, 1))
        self.assertFault(COINS, free, ("rule", ONE_LOOK, NOUGHTS, nothing), "sum", None)
        self.assertLet(COINS, free, ("rule", (((0, 0), FIRST),), NOUGHTS, nothing))

    def test_the_sum_of_none(self):
        # At 1/2 and 1/4 both sides are 12: not above.
        self.assertFault(COINS, TIGHT, STRICT_PAPER, "sum", None)
        self.assertFault(COINS, STRICT, with_worth(STRICT_PAPER, 0, (56, 5)), "sum", None)
        self.assertLet(COINS, STRICT, with_worth(STRICT_PAPER, 0, (561, 50)))
        nothing = tuple((counts, (0, 1)) for counts in all_counts(2, 1))
        self.assertFault(COINS, replaced(STRICT, 1, NOUGHTS), ("none", NOUGHTS, nothing), "sum", None)


class FirstFault(Checks):
    def test_two_faults(self):
        aim = replaced(TIGHT, 1, ((1, 2), (1, 4)))
        bad_shape = replaced(TIGHT_PAPER, 2, ((16, 1), (-1, 1)))
        faults = [
            ("shape", None, 2, ((16, 1), (32, 2))),
            ("rule", None, 1, ONE_LOOK[:2]),
            ("most", (0, 2), 1, TWO_LOOKS),
            ("wrong", 1, 1, (((0, 0), FIRST),)),
            ("worth", (0, 0), 3, (((0, 0), (16, 1)),) + worths_of(TIGHT_PAPER)[1:]),
            ("sum", None, 3, (((0, 0), (14, 1)),) + worths_of(TIGHT_PAPER)[1:]),
        ]
        self.assertFault(COINS, aim, bad_shape, "shape", None)
        for (word, at, place, part), (later, later_at, later_place, later_part) in itertools.combinations(faults, 2):
            if place != later_place:
                thing = replaced(replaced(TIGHT_PAPER, later_place, later_part), place, part)
                with self.subTest(f"{word} ahead of {later}"):
                    self.assertFault(COINS, aim, thing, word, at)

    def test_most_ahead_of_wrong_and_wrong_by_ways(self):
        aim = (1, NOUGHTS, HALVES, ((3, 1),))
        self.assertFault(COINS, aim, replaced(TIGHT_PAPER, 1, TWO_LOOKS), "most", (0, 2))
        self.assertFault(COINS, aim, TIGHT_PAPER, "wrong", 0)
        self.assertFault(COINS, replaced(aim, 1, ((1, 1), (0, 1))), TIGHT_PAPER, "wrong", 1)

    def test_worths_by_counts_rising(self):
        high = tuple((counts, (99, 1)) for counts in all_counts(2, 1))
        self.assertFault(COINS, TIGHT, replaced(TIGHT_PAPER, 3, high), "worth", (0, 0))
        self.assertFault(COINS, TIGHT, replaced(TIGHT_PAPER, 3, (((0, 0), (15, 1)),) + high[1:]), "worth", (0, 1))
        self.assertFault(COINS, STRICT, replaced(STRICT_PAPER, 2, (((0, 0), (0, 1)),) + high[1:]), "worth", (0, 1))


class ByTheWords(Checks):
    def changed(self, rng, trial, aim, paper):
        """A paper with one thing changed that keeps, mostly, its shape."""
        kind = rng.randrange(6)
        worths = worths_of(paper)
        place = rng.randrange(len(worths))
        if kind < 2:
            step = brute.Fraction(rng.choice([-1, 1, 1, -2]), rng.choice([1, 7, 10 ** 9]))
            return with_worth(paper, place, pair(value(worths[place][1]) + step))
        if kind == 2:
            prices = replaced(paper[-2], rng.randrange(len(trial[1])), rng.choice([(0, 1), (1, 3), (7, 1), (-1, 9)]))
            return paper[:-2] + (prices, worths)
        if kind == 3 and paper[0] == "rule":
            entry = rng.randrange(len(paper[1]))
            says = one_at(1 + len(trial[1]), rng.randint(0, len(trial[1])))
            return replaced(paper, 1, replaced(paper[1], entry, (paper[1][entry][0], says)))
        if kind == 4 and paper[0] == "rule":
            return ("none",) + paper[2:]
        return paper[:-1] + (worths[:place] + worths[place + 1:],)

    def test_papers_changed_in_one_thing(self):
        rng = random.Random(91)
        for k in range(150):
            trial = turn_trial(rng, k)
            aim = random_aim(rng, trial, rng.randint(0, 3))
            paper = fewest(trial, aim)
            self.assertAsAsked(trial, aim, paper)
            for step in range(3):
                self.assertAsAsked(trial, aim, self.changed(rng, trial, aim, paper))

    def test_worths_of_any_prices(self):
        rng = random.Random(92)
        for k in range(80):
            trial = turn_trial(rng, k)
            aim = random_aim(rng, trial, rng.randint(0, 3))
            prices = random_prices(rng, trial)
            costs = replaced(aim, 3, ((0, 1),) * aim[0])
            self.assertAsAsked(trial, aim, ("none", prices, brute.worths(trial, costs, prices)))
            self.assertAsAsked(trial, aim, ("none", prices, brute.worths(trial, aim, prices)))

    def test_the_greatest_aims(self):
        rng = random.Random(93)
        for trial, most in [(COINS, 6), (SURE, 6), (DICE, 6), (TWINS, 6), (SUITS, 4)]:
            for bounds in [((1, 1),) * 4, ((1, 2),) * 4, ((1, 9),) * 4]:
                aim = replaced(random_aim(rng, trial, most), 1, bounds[:len(trial[1])])
                paper = fewest(trial, aim)
                self.assertLet(trial, aim, paper)
                last = len(worths_of(paper)) - 1
                higher = with_worth(paper, last, pair(value(worths_of(paper)[last][1]) + 1))
                self.assertFault(trial, aim, higher, "worth", worths_of(paper)[last][0])


class Stays(Checks):
    def test_what_is_handed_in_stays(self):
        things = [TIGHT_PAPER, STRICT_PAPER, list(TIGHT_PAPER), ["rule", {1: [2]}], {"none": [()]}]
        kept = copy.deepcopy((COINS, TIGHT, STRICT, things))
        for aim in (TIGHT, STRICT, TIGHT):
            for thing in things + things[::-1]:
                self.assertAsAsked(COINS, aim, thing)
        self.assertTold((COINS, TIGHT, STRICT, things), kept)

    def test_sizes(self):
        # Papers are let by for trials of each number of faces and ways.
        rng = random.Random(94)
        for faces, ways in itertools.product((2, 3, 4), repeat=2):
            trial = next(t for t in (turn_trial(rng, 0) for k in range(10 ** 4)) if sizes(t) == (faces, ways))
            aim = random_aim(rng, trial, 2)
            self.assertAsAsked(trial, aim, fewest(trial, aim))


if __name__ == "__main__":
    unittest.main()
