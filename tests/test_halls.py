"""Promises 60 to 63, what 5 says of tests side by side, and the interface's row "Stage 15"."""

import copy
import itertools
import random
import unittest
from fractions import Fraction

import brute
from earlystop.halls import is_dealt, led, together, worst
from brute import value
from cases import Case
from papers import HALVES, ONE_LOOK
from rulesamples import FIRST, ON, SECOND, random_rule
from samples import COINS, DICE, SURE, TRIALS, TWINS, one_at, pair, random_parts, random_trial, sizes

AT_ONCE = (((0, 0), FIRST),)
EITHER = (((0, 0), ((0, 1), (1, 2), (1, 2))),)
# Looked at by half; behind a look all is said.
HALF = (((0, 0), ((1, 2), (1, 2), (0, 1))), ((0, 1), SECOND), ((1, 0), FIRST))
# A second look behind a head alone.
AGAIN = (((0, 0), ON), ((0, 1), ON), ((1, 0), FIRST), ((0, 2), SECOND), ((1, 1), FIRST))
BEGUN = ((0, 0), (0, 0))


def choices_of(hall):
    return list(itertools.product(*(range(len(trial[1])) for trial, rule in hall)))


def asked_together(hall, choice):
    none = Fraction(1)
    for (trial, rule), way in zip(hall, choice):
        none *= 1 - brute.wrong(trial, rule)[way]
    return 1 - none


def asked_led(hall, choice, plan):
    """By walking all that can come, look by look and lot by lot; a test is (counts, the way said or None)."""
    sums = [Fraction(0), Fraction(0), Fraction(0)]

    def lots(tests, number, share):
        """All that can come where a test has come to new counts."""
        counts = tests[number][0]
        says = dict(hall[number][1])[counts]
        for word, part in enumerate(says):
            if part[0]:
                now = (counts, None if word == 0 else word - 1)
                yield tests[:number] + (now,) + tests[number + 1:], share * value(part)

    def go(tests, share):
        going = [number for number, (counts, way) in enumerate(tests) if way is None]
        told = plan.get(tuple(counts for counts, way in tests))
        if not going or told == -1:
            sums[0] += share * any(way not in (None, right) for (counts, way), right in zip(tests, choice))
            sums[1] += share * (not going)
            return
        sums[2] += share
        number = told if told in going else going[0]
        counts = tests[number][0]
        for face, part in enumerate(hall[number][0][1][choice[number]][1]):
            if part[0]:
                more = tuple(count + (k == face) for k, count in enumerate(counts))
                looked = tests[:number] + ((more, None),) + tests[number + 1:]
                for after, after_share in lots(looked, number, share * value(part)):
                    go(after, after_share)

    begun = [(tuple(((0,) * len(trial[0]), None) for trial, rule in hall), Fraction(1))]
    for number in range(len(hall)):
        begun = [one for tests, share in begun for one in lots(tests, number, share)]
    for tests, share in begun:
        go(tests, share)
    return tuple(pair(one) for one in sums)


def random_hall(rng, tests, most):
    hall = []
    for k in range(tests):
        trial = rng.choice(TRIALS) if rng.random() < 0.5 else random_trial(rng, rng.randint(2, 3), rng.randint(2, 4))
        looks = rng.randint(0, most if len(trial[0]) < 4 else 1)
        hall.append((trial, random_rule(rng, *sizes(trial), looks, rng.random() < 0.6)))
    return tuple(hall)


def all_places(hall):
    return list(itertools.product(*([counts for counts, says in rule] for trial, rule in hall)))


def random_plan(rng, hall, numbers, share=0.7):
    return {place: rng.choice(numbers) for place in all_places(hall) if rng.random() < share}


class Together(Case):
    def test_by_hand(self):
        # One look at a coin: of a fair one wrong by 1/2, of a loaded one by 1/4.
        self.assertTold(together(((COINS, ONE_LOOK),), (0,)), (1, 2))
        self.assertTold(together(((COINS, ONE_LOOK),), (1,)), (1, 4))
        two = ((COINS, ONE_LOOK), (COINS, ONE_LOOK))
        self.assertTold(together(two, (0, 0)), (3, 4))
        self.assertTold(together(two, (0, 1)), (5, 8))
        self.assertTold(together(two, (1, 0)), (5, 8))
        self.assertTold(together(two, (1, 1)), (7, 16))
        three = two + ((COINS, AT_ONCE),)
        self.assertTold(together(three, (1, 1, 0)), (7, 16))
        self.assertTold(together(three, (1, 1, 1)), (1, 1))
        self.assertTold(together(((COINS, AT_ONCE),) * 3, (0, 0, 0)), (0, 1))

    def test_tests_of_other_sizes(self):
        rng = random.Random(140)
        for k in range(40):
            hall = random_hall(rng, 1 + k % 3, 2)
            for choice in choices_of(hall):
                self.assertTold(together(hall, choice), pair(asked_together(hall, choice)))


class Worst(Case):
    def assertWorst(self, hall):
        told = worst(hall)
        self.assertIs(type(told), tuple)
        share, choice = told
        self.assertIn(choice, choices_of(hall))
        self.assertTrue(all(type(way) is int for way in choice))
        greatest = max(asked_together(hall, one) for one in choices_of(hall))
        self.assertTold(share, pair(greatest))
        self.assertEqual(asked_together(hall, choice), greatest)

    def test_by_hand(self):
        self.assertTold(worst(((COINS, ONE_LOOK),)), ((1, 2), (0,)))
        # Of a loaded coin the second test is wrong behind a tail and behind a head and a tail: 7/16.
        self.assertTold(worst(((COINS, ONE_LOOK), (COINS, AGAIN))), ((23, 32), (0, 1)))
        self.assertTold(worst(((COINS, AT_ONCE), (COINS, ONE_LOOK)))[0], (1, 1))

    def test_the_greatest_over_all_choices(self):
        rng = random.Random(141)
        for k in range(40):
            self.assertWorst(random_hall(rng, 1 + k % 3, 2))

    def test_several_that_are_as_great(self):
        self.assertWorst(((COINS, EITHER),))
        self.assertWorst(((COINS, EITHER), (COINS, EITHER), (COINS, EITHER)))
        self.assertWorst(((TWINS, (((0, 0, 0), FIRST),)), (COINS, AT_ONCE)))


class LedByHand(Case):
    def test_no_plan(self):
        self.assertTold(led(((COINS, ONE_LOOK),), (0,), {}), ((1, 2), (1, 1), (1, 1)))
        self.assertTold(led(((COINS, ONE_LOOK),), (1,), {}), ((1, 4), (1, 1), (1, 1)))
        self.assertTold(led(((COINS, AT_ONCE),), (1,), {}), ((1, 1), (1, 1), (0, 1)))
        self.assertTold(led(((COINS, HALF),), (0,), {}), ((1, 4), (1, 1), (1, 2)))
        self.assertTold(led(((COINS, ONE_LOOK), (COINS, ONE_LOOK)), (0, 1), {}), ((5, 8), (1, 1), (2, 1)))
        self.assertTold(led(((COINS, AGAIN),), (1,), {}), ((7, 16), (1, 1), (7, 4)))

    def test_broken_off_at_the_beginning(self):
        two = ((COINS, ONE_LOOK), (COINS, ONE_LOOK))
        self.assertTold(led(two, (0, 0), {BEGUN: -1}), ((0, 1), (0, 1), (0, 1)))
        # What was said ahead of it counts: the second test says a wrong way at once.
        self.assertTold(led(((COINS, ONE_LOOK), (COINS, AT_ONCE)), (0, 1), {BEGUN: -1}), ((1, 1), (0, 1), (0, 1)))
        self.assertTold(led(((COINS, ONE_LOOK), (COINS, AT_ONCE)), (0, 0), {BEGUN: -1}), ((0, 1), (0, 1), (0, 1)))
        # Where all are over it is over, whatever the plan tells there.
        self.assertTold(led(((COINS, AT_ONCE), (COINS, AT_ONCE)), (0, 1), {BEGUN: -1}), ((1, 1), (1, 1), (0, 1)))
        # By lots: half of it is over at the noughts, half is broken off there.
        self.assertTold(led(((COINS, HALF),), (1,), {((0, 0),): -1}), ((1, 2), (1, 2), (0, 1)))

    def test_broken_off_behind_a_look(self):
        two = ((COINS, ONE_LOOK), (COINS, ONE_LOOK))
        # Behind a head of the first test the second one isn't looked at any more.
        plan = {((0, 1), (0, 0)): -1}
        self.assertTold(led(two, (0, 0), plan), ((3, 4), (1, 2), (3, 2)))
        self.assertTold(led(two, (1, 1), plan), ((1, 4), (1, 4), (5, 4)))
        # Of the first test alone: over behind one look, so the plan isn't asked for it.
        self.assertTold(led(two[:1], (0,), {((0, 1),): -1, ((1, 0),): -1}), ((1, 2), (1, 1), (1, 1)))

    def test_which_is_looked_at(self):
        # Broken off behind one look: what was seen tells which test it was.
        two = ((COINS, ONE_LOOK), (COINS, AGAIN))
        stop = {((0, 0), (0, 1)): -1, ((0, 0), (1, 0)): -1, ((0, 1), (0, 0)): -1, ((1, 0), (0, 0)): -1}
        # The first test has said a way behind its look: wrong by 1/2.
        for told in ({}, {BEGUN: 0}, {BEGUN: 2}, {BEGUN: 3}, {BEGUN: -2}, {BEGUN: 10 ** 20}):
            self.assertTold(led(two, (0, 0), {**stop, **told}), ((1, 2), (0, 1), (1, 1)))
        # The second one has said the first way behind a tail alone, and rightly.
        self.assertTold(led(two, (0, 0), {**stop, BEGUN: 1}), ((0, 1), (0, 1), (1, 1)))
        self.assertTold(led(two, (0, 1), {**stop, BEGUN: 1}), ((1, 4), (0, 1), (1, 1)))

    def test_a_test_that_is_over_is_not_looked_at(self):
        hall = ((COINS, AT_ONCE), (COINS, ONE_LOOK), (COINS, ONE_LOOK))
        begun = ((0, 0),) * 3
        stop = {((0, 0), (0, 0), one): -1 for one in ((0, 1), (1, 0))}
        # Told 0, which is over: the first that still looks on is 1, and behind it 2.
        self.assertTold(led(hall, (0, 1, 0), {begun: 0}), ((5, 8), (1, 1), (2, 1)))
        self.assertTold(led(hall, (0, 1, 0), {**stop, begun: 0}), ((5, 8), (1, 1), (2, 1)))
        self.assertTold(led(hall, (0, 1, 0), {**stop, begun: 2}), ((1, 2), (0, 1), (1, 1)))

    def test_a_test_whose_counts_are_not_new_casts_no_lot_again(self):
        # The half that looks on at the noughts still does when the other test has been looked at.
        hall = ((COINS, HALF), (COINS, AGAIN))
        plan = {BEGUN: 1, ((0, 0), (0, 1)): 1}
        self.assertTold(led(hall, (0, 0), plan), ((7, 16), (1, 1), (2, 1)))
        self.assertTold(led(hall, (0, 0), {}), ((7, 16), (1, 1), (2, 1)))

    def test_places_of_other_halls_are_passed_over(self):
        plan = {((5, 5), (0, 0)): -1, ((0, 0),): -1, (): -1, ((0, 0), (0, 0), (0, 0)): -1}
        self.assertTold(led(((COINS, ONE_LOOK), (COINS, ONE_LOOK)), (0, 1), plan), ((5, 8), (1, 1), (2, 1)))


class Led(Case):
    def test_by_walking_all_that_can_come(self):
        rng = random.Random(142)
        for k in range(90):
            tests = 1 + k % 3
            hall = random_hall(rng, tests, 2 if tests < 3 else 1)
            choice = rng.choice(choices_of(hall))
            plan = random_plan(rng, hall, [-1, -1, 0, 0, 1, 1, 2, 2, 3, -2, 77])
            with self.subTest(hall=hall, choice=choice, plan=plan):
                told = led(hall, choice, plan)
                self.assertTold(told, asked_led(hall, choice, plan))
                self.assertLessEqual(value(told[0]), asked_together(hall, choice))

    def test_just_together_where_it_is_never_broken_off(self):
        rng = random.Random(143)
        for k in range(60):
            hall = random_hall(rng, 1 + k % 3, 2)
            choice = rng.choice(choices_of(hall))
            plan = random_plan(rng, hall, [0, 1, 2, 3, -2, 9])
            averages = sum(brute.spent(trial, rule, way, [1] * 8) for (trial, rule), way in zip(hall, choice))
            asked = (pair(asked_together(hall, choice)), (1, 1), pair(Fraction(averages)))
            self.assertTold(led(hall, choice, plan), asked)
            self.assertTold(together(hall, choice), asked[0])

    def test_never_above_together(self):
        rng = random.Random(144)
        broken = 0
        for k in range(60):
            hall = random_hall(rng, 1 + k % 3, 2)
            choice = rng.choice(choices_of(hall))
            wrong, over, looks = led(hall, choice, random_plan(rng, hall, [-1, 0, 1, 2], 0.9))
            self.assertLessEqual(value(wrong), asked_together(hall, choice))
            self.assertLessEqual(value(over), 1)
            broken += value(over) < 1
        self.assertGreater(broken, 10)

    def test_a_great_hall(self):
        rng = random.Random(145)
        hall = tuple((COINS, random_rule(rng, 2, 2, 3, True)) for k in range(3))
        plan = random_plan(rng, hall, [0, 1, 2])
        told = led(hall, (0, 1, 0), plan)
        self.assertTold(told[:2], (pair(asked_together(hall, (0, 1, 0))), (1, 1)))

    def test_what_is_handed_in_stays(self):
        rng = random.Random(146)
        hall = random_hall(rng, 3, 1)
        plan = random_plan(rng, hall, [-1, 0, 1, 2])
        choice = choices_of(hall)[-1]
        kept = copy.deepcopy((hall, choice, plan))
        told = led(hall, choice, plan)
        together(hall, choice), worst(hall), led(hall, choice, {})
        self.assertTold(led(hall, choice, plan), told)
        self.assertTold((hall, choice, plan), kept)


class IsDealt(Case):
    def test_by_hand(self):
        # A tenth and a tenth make 19/100.
        for bound, shares, asked in [
            ((19, 100), ((1, 10), (1, 10)), True), ((9, 50), ((1, 10), (1, 10)), False),
            ((1, 5), ((1, 10), (1, 10)), True), ((1, 10), ((1, 10),), True), ((99, 1000), ((1, 10),), False),
            ((0, 1), ((0, 1), (0, 1), (0, 1)), True), ((0, 1), ((0, 1), (1, 999), (0, 1)), False),
            ((1, 1), ((1, 1), (1, 2)), True), ((998, 999), ((1, 1), (0, 1)), False),
            ((7, 8), HALVES + ((1, 2),), True), ((6, 7), HALVES + ((1, 2),), False),
        ]:
            with self.subTest(bound=bound, shares=shares):
                self.assertIs(is_dealt(bound, shares), asked)

    def test_a_bound_dealt_and_kept(self):
        rng = random.Random(147)
        dealt = 0
        for k in range(60):
            hall = random_hall(rng, 1 + k % 3, 2)
            shares = tuple(pair(max(brute.wrong(trial, rule))) for trial, rule in hall)
            greatest = max(asked_together(hall, choice) for choice in choices_of(hall))
            bound = pair(min(Fraction(1), greatest + rng.choice([Fraction(0), Fraction(1, 7)])))
            self.assertIs(is_dealt(bound, shares), True)
            self.assertLessEqual(value(worst(hall)[0]), value(bound))
            if greatest > 0:
                dealt += 1
                self.assertIs(is_dealt(pair(greatest * Fraction(999, 1000)), shares), False)
        self.assertGreater(dealt, 20)

    def test_by_products(self):
        rng = random.Random(148)
        for k in range(100):
            shares = tuple(random_parts(rng, 3)[0] for test in range(1 + k % 3))
            none = Fraction(1)
            for share in shares:
                none *= 1 - value(share)
            self.assertIs(is_dealt(pair(1 - none), shares), True)
            bound = random_parts(rng, 2)[0]
            self.assertIs(is_dealt(bound, shares), 1 - none <= value(bound))


class ThreeFaces(Case):
    def test_sizes_side_by_side(self):
        words = [((0, 0, 0), 0), ((0, 0, 1), 3), ((0, 1, 0), 1), ((1, 0, 0), 2)]
        rule = tuple((counts, one_at(4, place)) for counts, place in words)
        sure = (((0, 0), one_at(4, 0)), ((0, 1), one_at(4, 2)), ((1, 0), one_at(4, 1)))
        hall = ((DICE, rule), (SURE, sure))
        # Of the way "even" two of three faces are wrong; "never" and "always" are never, "often" is always.
        for choice, asked in [((0, 0), (2, 3)), ((0, 1), (2, 3)), ((0, 2), (1, 1)), ((2, 0), (1, 2)), ((1, 1), (1, 2))]:
            self.assertTold(together(hall, choice), asked)
            self.assertTold(led(hall, choice, {}), (asked, (1, 1), (2, 1)))
        self.assertTold(worst(hall)[0], (1, 1))


if __name__ == "__main__":
    unittest.main()
