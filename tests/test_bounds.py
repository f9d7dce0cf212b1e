"""Promises 28 and 29, and the interface's row "Stage 7, bounds"."""

import itertools
import random
import unittest

from earlystop.bounds import bounds_of, rule_by
from earlystop.errors import NoBounds
from earlystop.looks import all_counts
from earlystop.rules import is_plain, is_rule, most_of, rule_of
from cases import Case, bent, replaced
from rulesamples import FIRST, ON, SECOND, all_plain_rules, random_rule
from things import ODD_THINGS


def level_bounds(k):
    return [(low, high) for low in range(-1, k + 1) for high in range(k + 2) if low < high]


def does_so(rule, k, bound):
    for counts, says in rule:
        if sum(counts) == k:
            asked = FIRST if counts[1] <= bound[0] else SECOND if counts[1] >= bound[1] else ON
            if says != asked:
                return False
    return True


def closest(rule, k):
    firsts = [counts[1] for counts, says in rule if sum(counts) == k and says == FIRST]
    seconds = [counts[1] for counts, says in rule if sum(counts) == k and says == SECOND]
    return (max(firsts, default=-1), min(seconds, default=k + 1))


def asked_bounds(rule):
    """By trying all bounds at each number of looks."""
    levels = range(max(sum(counts) for counts, says in rule) + 1)
    if not all(any(does_so(rule, k, bound) for bound in level_bounds(k)) for k in levels):
        return None
    return tuple(closest(rule, k) for k in levels)


def random_bounds(rng, most):
    """Bounds at the last of which it looks on no more."""
    found = [rng.choice(level_bounds(k)) for k in range(most)]
    low = rng.randint(-1, most)
    return tuple(found) + ((low, low + 1),)


class BoundsOf(Case):
    def test_by_hand(self):
        self.assertTold(bounds_of((((0, 0), FIRST),)), ((0, 1),))
        self.assertTold(bounds_of((((0, 0), SECOND),)), ((-1, 0),))
        self.assertTold(bounds_of((((0, 0), ON), ((0, 1), SECOND), ((1, 0), FIRST))), ((-1, 1), (0, 1)))
        self.assertTold(bounds_of((((0, 0), ON), ((0, 1), SECOND), ((1, 0), SECOND))), ((-1, 1), (-1, 0)))
        self.assertIsNone(bounds_of((((0, 0), ON), ((0, 1), FIRST), ((1, 0), SECOND))))

    def test_counts_to_which_it_does_not_come(self):
        rule = rule_of(2, 2, {(0, 0): ON, (0, 1): SECOND, (1, 0): ON, (1, 1): SECOND, (2, 0): FIRST})
        self.assertTold(bounds_of(rule), ((-1, 1), (-1, 1), (0, 1)))
        rule = rule_of(2, 2, {(0, 0): ON, (0, 1): ON, (1, 0): FIRST, (0, 2): FIRST, (1, 1): FIRST})
        self.assertTold(bounds_of(rule), ((-1, 1), (0, 2), (2, 3)))

    def test_looking_on_beyond_a_word(self):
        rule = rule_of(2, 2, {(0, 0): ON, (0, 1): FIRST, (1, 0): ON, (1, 1): FIRST, (2, 0): FIRST})
        self.assertIsNone(bounds_of(rule))
        rule = rule_of(2, 2, {(0, 0): ON, (0, 1): ON, (1, 0): SECOND, (0, 2): SECOND, (1, 1): SECOND})
        self.assertIsNone(bounds_of(rule))

    def test_each_plain_rule(self):
        rules = all_plain_rules(2, 2, 4)
        self.assertGreater(len(rules), 3000)
        found = 0
        for rule in rules:
            asked = asked_bounds(rule)
            self.assertTold(bounds_of(rule), asked)
            if asked is not None:
                found += 1
                self.assertTold(rule_by(asked), rule)
        self.assertGreater(found, 50)
        self.assertLess(found, len(rules))

    def test_rules_that_are_not_plain(self):
        self.assertIsNone(bounds_of((((0, 0), ((0, 1), (1, 2), (1, 2))),)))
        self.assertIsNone(bounds_of((((0, 0), ON), ((0, 1), SECOND), ((1, 0), ((0, 1), (998, 999), (1, 999))))))
        self.assertIsNone(bounds_of((((0, 0), ((1, 2), (1, 2), (0, 1))), ((0, 1), SECOND), ((1, 0), FIRST))))
        rng = random.Random(40)
        for k in range(40):
            rule = random_rule(rng, 2, 2, 3, True)
            self.assertTold(bounds_of(rule), asked_bounds(rule) if is_plain(rule) else None)


class RuleBy(Case):
    def refused(self, thing, k):
        with self.subTest(repr(thing)[:200]):
            self.assertRefused(NoBounds, {"k": k}, rule_by, thing)

    def test_by_hand(self):
        self.assertTold(rule_by(((0, 1),)), (((0, 0), FIRST),))
        self.assertTold(rule_by(((-1, 0),)), (((0, 0), SECOND),))
        self.assertTold(rule_by(((-1, 1), (0, 1))), (((0, 0), ON), ((0, 1), SECOND), ((1, 0), FIRST)))
        self.assertTold(rule_by(((-1, 1), (-1, 1), (0, 1))),
                        (((0, 0), ON), ((0, 1), SECOND), ((1, 0), ON), ((1, 1), SECOND), ((2, 0), FIRST)))

    def test_ends_sooner(self):
        self.assertTold(rule_by(((0, 1), (-1, 2))), (((0, 0), FIRST),))
        self.assertTold(rule_by(((-1, 0), (-1, 2), (-1, 3))), (((0, 0), SECOND),))
        self.assertTold(rule_by(((-1, 1), (0, 1), (-1, 3))), (((0, 0), ON), ((0, 1), SECOND), ((1, 0), FIRST)))

    def test_last_counts_to_which_it_does_not_come_are_passed_over(self):
        # At the last it would look on with nought seen, but it has stopped ahead of that.
        self.assertTold(rule_by(((-1, 1), (0, 2), (-1, 1))),
                        (((0, 0), ON), ((0, 1), ON), ((1, 0), FIRST), ((0, 2), SECOND), ((1, 1), SECOND)))
        self.refused(((-1, 1), (0, 2), (-1, 2)), 2)

    def test_all_bounds_of_two_looks(self):
        for bounds in itertools.product(*[level_bounds(k) for k in range(3)]):
            table = {}
            for counts in all_counts(2, 2):
                low, high = bounds[sum(counts)]
                table[counts] = FIRST if counts[1] <= low else SECOND if counts[1] >= high else ON
            entries = [((0, 0), table[(0, 0)])]
            if table[(0, 0)] == ON:
                entries += [(counts, table[counts]) for counts in [(0, 1), (1, 0)]]
            due = [(c[0] + a, c[1] + b) for c, says in entries[1:] if says == ON for a, b in [(0, 1), (1, 0)]]
            entries += [(counts, table[counts]) for counts in sorted(set(due))]
            if any(says == ON and sum(counts) == 2 for counts, says in entries):
                self.refused(bounds, 2)
            else:
                self.assertTold(rule_by(bounds), tuple(entries))

    def test_made_of_its_own_told_ones(self):
        rng = random.Random(41)
        for k in range(200):
            rule = rule_by(random_bounds(rng, rng.randint(0, 8)))
            self.assertIs(is_rule(2, 2, rule), True)
            told = bounds_of(rule)
            self.assertEqual(len(told), most_of(rule) + 1)
            self.assertTold(rule_by(told), rule)

    def test_no_tuple_of_one_to_nine(self):
        for thing in [None, True, 0, 1, "", "01", [], {}, (), [(0, 1)], {0: (0, 1)}, [(-1, 1), (0, 1)]]:
            self.refused(thing, 0)
        nine = tuple((-1, k + 1) for k in range(8)) + ((3, 4),)
        self.assertTold(most_of(rule_by(nine)), 8)
        self.refused(nine + ((3, 4),), 0)
        self.refused(tuple((-1, k + 1) for k in range(9)) + ((3, 4),), 0)
        self.refused(((0, 1),) * 10, 0)
        self.refused((None,) * 10, 0)
        self.refused(((-1, 1), None) + ((0, 1),) * 8, 0)

    def test_any_plain_thing(self):
        for thing in ODD_THINGS:
            with self.assertRaises(NoBounds):
                rule_by(thing)
        self.assertTold(rule_by(((0, 1), (1, 1))[:1]), (((0, 0), FIRST),))

    def test_the_first_that_is_no_such_tuple(self):
        right = ((-1, 1), (-1, 2), (-1, 3), (0, 1))
        for k in range(4):
            for thing in [None, 0, True, "01", [], {}, (), (0,), (0, 1, 1), [0, 1], (None, 1), (0, None), ("0", 1),
                          (0, "1"), (True, 2), (False, 1), (0, True), (-1, True), (-1, False), ((0,), 1), (-2, 0),
                          (-2, 1), (-1, k + 2), (k + 1, k + 2), (k, k + 2), (0, 0), (k, k), (k, 0), (-1, -1), (0, -1),
                          (10 ** 59, 10 ** 59), (k + 1, k + 1)]:
                self.refused(replaced(right, k, thing), k)
                self.refused(replaced(right, k, thing)[:k + 1], k)
                self.refused(replaced(right, k, thing)[:k + 1] + (None,) * (3 - k), k)
        for thing in bent((-1, 1)):
            self.refused((thing,) + right[1:], 0)
            self.refused(right[:1] + (thing,) + right[2:], 1)

    def test_each_pair_at_each_place(self):
        right = ((-1, 1), (-1, 2), (-1, 3), (-1, 0))
        for k in range(3):
            for low in range(-3, k + 4):
                for high in range(-3, k + 4):
                    thing = replaced(right, k, (low, high))
                    if (low, high) in level_bounds(k):
                        self.assertIs(is_rule(2, 2, rule_by(thing)), True)
                    else:
                        self.refused(thing, k)

    def test_a_last_one_at_which_it_would_look_on(self):
        self.refused(((-1, 1),), 0)
        self.refused(((-1, 1), (-1, 2)), 1)
        self.refused(((-1, 1), (0, 2)), 1)
        self.refused(((-1, 1), (-1, 1)), 1)
        self.refused(((-1, 1), (0, 2), (0, 2)), 2)
        self.refused(tuple((-1, k + 1) for k in range(9)), 8)
        self.refused(tuple((-1, k + 1) for k in range(8)) + ((3, 5),), 8)
        self.refused(((-1, 1), (-1, 2), (0, 1, 2)), 2)

    def test_refusals_in_their_order(self):
        self.refused(((-1, 1), (5, 9), (-1, 3)), 1)
        self.refused(((-1, 1), (-1, 2), None), 2)
        self.refused((None, (5, 9)), 0)


if __name__ == "__main__":
    unittest.main()
