"""Promises 20, 21 and 22, what 3 says of rules, and the interface's row "Stage 4, rules"."""

import copy
import random
import unittest

from earlystop.errors import NoRule
from earlystop.looks import all_counts
from earlystop.rules import is_plain, is_rule, most_of, rule_of, says_at
from cases import Case, bent, replaced
from rulesamples import FIRST, ON, SECOND, all_plain_rules, random_rule, trials_and_rules
from samples import one_at, sizes
from things import ODD_THINGS

THIRDS = ((1, 3), (1, 3), (1, 3))
HALVES = ((0, 1), (1, 2), (1, 2))
AT_ONCE = (((0, 0), FIRST),)
ONE_LOOK = (((0, 0), ON), ((0, 1), SECOND), ((1, 0), FIRST))
BY_LOTS = (((0, 0), THIRDS), ((0, 1), SECOND), ((1, 0), ((1, 4), (3, 4), (0, 1))), ((1, 1), HALVES), ((2, 0), FIRST))
THREE = (
    ((0, 0, 0), one_at(3, 0)), ((0, 0, 1), one_at(3, 1)), ((0, 1, 0), one_at(3, 0)), ((1, 0, 0), one_at(3, 2)),
    ((0, 1, 1), one_at(3, 1)), ((0, 2, 0), one_at(3, 2)), ((1, 1, 0), HALVES),
)
RULES = [AT_ONCE, ONE_LOOK, BY_LOTS]
FAULTY_SAYS = [
    (), ((1, 1),), ((1, 2), (1, 2)), ((1, 1), (0, 1), (0, 1), (0, 1)), ((1, 4),) * 4, ((0, 1),) * 3, ((1, 1),) * 3,
    ((1, 2), (1, 3), (1, 3)), ((1, 2), (1, 2), (1, 2)), ((2, 4), (1, 2), (0, 1)), ((3, 2), (-1, 2), (0, 1)),
    ((0, 2), (1, 1), (0, 1)), ((True, 1), (0, 1), (0, 1)), ((1, 1), (False, 1), (0, 1)), ((1, True), (0, 1), (0, 1)),
    [(1, 1), (0, 1), (0, 1)], ([1, 1], (0, 1), (0, 1)), (1, 0, 0), (True, False, False), None, True, 0, "on", {}, [],
    {0: (1, 1)}, ((1, 1), None, (0, 1)),
]


def table_of(rule):
    return dict(rule)


class IsRule(Case):
    def is_rule(self, thing):
        return is_rule(2, 2, thing)

    def test_rules(self):
        self.assertEach(self.is_rule, RULES, True)
        self.assertIs(is_rule(3, 2, THREE), True)
        self.assertEach(self.is_rule, [(((0, 0), says),) for says in [FIRST, SECOND, HALVES]], True)

    def test_many_rules(self):
        for trial, rule in trials_and_rules(20, 60):
            self.assertIs(is_rule(*sizes(trial), rule), True)

    def test_each_plain_rule(self):
        self.assertEach(self.is_rule, all_plain_rules(2, 2, 2), True)

    def test_each_bent_in_one_place(self):
        self.assertEach(self.is_rule, [thing for rule in RULES for thing in bent(rule)], False)
        self.assertEach(lambda thing: is_rule(3, 2, thing), bent(THREE), False)

    def test_an_entry_left_out(self):
        for trial, rule in trials_and_rules(21, 40) + [(None, rule) for rule in RULES]:
            faces, ways = sizes(trial) if trial else (2, 2)
            for place in range(len(rule)):
                self.assertIs(is_rule(faces, ways, rule[:place] + rule[place + 1:]), False)

    def test_an_entry_twice(self):
        for trial, rule in trials_and_rules(22, 40) + [(None, rule) for rule in RULES]:
            faces, ways = sizes(trial) if trial else (2, 2)
            for place in range(len(rule)):
                self.assertIs(is_rule(faces, ways, rule[:place] + rule[place:place + 1] + rule[place:]), False)

    def test_two_exchanged(self):
        for rule in RULES:
            for one in range(len(rule)):
                for other in range(one):
                    turned = list(rule)
                    turned[one], turned[other] = turned[other], turned[one]
                    self.assertIs(self.is_rule(tuple(turned)), False)
        self.assertIs(self.is_rule(ONE_LOOK[:1] + ONE_LOOK[:0:-1]), False)

    def test_one_that_it_does_not_come_to(self):
        self.assertEach(self.is_rule, [
            AT_ONCE + (((0, 1), FIRST),), AT_ONCE + (((0, 1), FIRST), ((1, 0), FIRST)), AT_ONCE + (((0, 2), FIRST),),
            ONE_LOOK + (((0, 2), FIRST),), ONE_LOOK + (((1, 1), FIRST),), ONE_LOOK + (((5, 5), FIRST),),
            ONE_LOOK + (((10 ** 59, 0), FIRST),),
            BY_LOTS[:3] + (((0, 2), FIRST),) + BY_LOTS[3:],
            AT_ONCE + (((0, 1), ON), ((0, 2), FIRST), ((1, 1), FIRST))], False)

    def test_looks_on_behind_its_last(self):
        self.assertEach(self.is_rule, [
            (((0, 0), ON),), (((0, 0), ((1, 999), (998, 999), (0, 1))),), replaced(ONE_LOOK, 2, ((1, 0), ON)),
            replaced(ONE_LOOK, 1, ((0, 1), THIRDS)), replaced(BY_LOTS, 4, ((2, 0), THIRDS))], False)

    def test_stops_ahead_of_its_entries(self):
        self.assertEach(self.is_rule, [replaced(ONE_LOOK, 0, ((0, 0), FIRST)), replaced(ONE_LOOK, 0, ((0, 0), HALVES)),
                                       replaced(BY_LOTS, 2, ((1, 0), HALVES))], False)

    def test_without_the_noughts(self):
        self.assertEach(self.is_rule, [(), ONE_LOOK[1:], (((1, 0), FIRST),), (((0, 1), FIRST), ((1, 0), FIRST))], False)

    def test_counts_that_are_none(self):
        for counts in [(0, -1), (-1, 0), (-1, 1), (0,), (0, 0, 0), (), [0, 0], None, 0, "00", (False, 0), (0, False),
                       ((0, 0),), {}, {0: 0, 1: 0}]:
            self.assertIs(self.is_rule(((counts, FIRST),)), False)
        for counts in [(0, True), (False, 1), [0, 1], (0, 1, 0), (0,), (-1, 2), (0, -1), None]:
            self.assertIs(self.is_rule(replaced(ONE_LOOK, 1, (counts, SECOND))), False)
        self.assertIs(self.is_rule(ONE_LOOK[:1] + (((-1, 2), FIRST),) + ONE_LOOK[1:]), False)

    def test_says_that_are_none(self):
        for says in FAULTY_SAYS:
            with self.subTest(repr(says)):
                self.assertIs(self.is_rule((((0, 0), says),)), False)
                self.assertIs(self.is_rule(replaced(ONE_LOOK, 0, ((0, 0), says))), False)
                self.assertIs(self.is_rule(replaced(ONE_LOOK, 2, ((1, 0), says))), False)

    def test_other_numbers_of_faces_and_ways(self):
        for faces in range(2, 5):
            for ways in range(2, 5):
                for rule in RULES:
                    self.assertIs(is_rule(faces, ways, rule), (faces, ways) == (2, 2))
                self.assertIs(is_rule(faces, ways, THREE), (faces, ways) == (3, 2))

    def test_other_things(self):
        self.assertEach(self.is_rule, ODD_THINGS + [
            (None,), ((),), (((0, 0),),), (((0, 0), FIRST, FIRST),), ((FIRST, (0, 0)),), (0, 0), [((0, 0), FIRST)],
            {(0, 0): FIRST}, ([(0, 0), FIRST],), ({(0, 0): FIRST},), ((0, 0), FIRST)], False)

    def test_longer_rules_are_not_refused(self):
        table = {}
        for counts in all_counts(2, 12):
            table[counts] = ON if sum(counts) < 12 else FIRST
        rule = tuple((counts, table[counts]) for counts in all_counts(2, 12))
        self.assertIs(self.is_rule(rule), True)
        self.assertIs(self.is_rule(rule[:-1]), False)
        self.assertIs(self.is_rule(rule[:-14] + rule[-13:]), False)

    def test_things_stay_as_they_were(self):
        thing = [[[0, 0], [[1, 1], [0, 1], [0, 1]]]]
        kept = copy.deepcopy(thing)
        self.assertIs(self.is_rule(thing), False)
        self.assertIs(self.is_rule(tuple(thing)), False)
        self.assertEqual(thing, kept)


class RuleOf(Case):
    def refused(self, table, counts, faces=2, ways=2):
        kept = copy.deepcopy(table)
        self.assertRefused(NoRule, {"counts": counts}, rule_of, faces, ways, table)
        self.assertEqual(table, kept)

    def test_of_its_own_entries(self):
        for rule in RULES:
            self.assertTold(rule_of(2, 2, table_of(rule)), rule)
            self.assertTold(rule_of(2, 2, dict(reversed(rule))), rule)
        self.assertTold(rule_of(3, 2, table_of(THREE)), THREE)
        for trial, rule in trials_and_rules(23, 60):
            self.assertTold(rule_of(*sizes(trial), dict(reversed(rule))), rule)

    def test_entries_that_it_does_not_come_to(self):
        for rule in RULES:
            table = {counts: FIRST for counts in all_counts(2, 4)}
            table.update(rule)
            self.assertTold(rule_of(2, 2, table), rule)

    def test_entries_that_it_does_not_come_to_and_are_no_says(self):
        for thing in FAULTY_SAYS + ODD_THINGS:
            for rule in RULES:
                table = {counts: thing for counts in all_counts(2, 11)}
                table.update(rule)
                kept = list(table)
                self.assertTold(rule_of(2, 2, table), rule)
                self.assertEqual(list(table), kept)

    def test_missing(self):
        self.refused({}, (0, 0))
        self.refused({}, (0, 0, 0, 0), 4, 3)
        self.refused({(0, 1): FIRST, (1, 0): FIRST}, (0, 0))
        self.refused({(0, 0): ON}, (0, 1))
        self.refused({(0, 0): ON, (0, 1): FIRST}, (1, 0))
        self.refused({(0, 0): ON, (1, 0): FIRST}, (0, 1))
        self.refused({(0, 0): ON, (0, 1): ON, (1, 0): FIRST, (0, 2): FIRST}, (1, 1))
        self.refused({(0, 0): ON, (0, 1): FIRST, (1, 0): ON, (0, 2): FIRST}, (1, 1))
        for rule in RULES + [THREE]:
            faces = len(rule[0][0])
            for counts, says in rule:
                table = table_of(rule)
                table.pop(counts)
                self.refused(table, counts, faces)

    def test_no_says(self):
        for thing in FAULTY_SAYS + ODD_THINGS:
            with self.subTest(repr(thing)):
                self.refused({(0, 0): thing}, (0, 0))
                for rule in RULES:
                    for counts, says in rule:
                        table = table_of(rule)
                        table[counts] = thing
                        self.refused(table, counts)

    def test_says_of_other_ways(self):
        self.refused(table_of(AT_ONCE), (0, 0), 2, 3)
        self.refused({(0, 0): one_at(4, 0), (0, 1): one_at(4, 1), (1, 0): FIRST}, (1, 0), 2, 3)

    def test_the_first_rising(self):
        self.refused({(0, 0): ON, (0, 1): ON, (1, 0): None, (0, 2): None}, (1, 0))
        self.refused({(0, 0): ON, (0, 1): ON, (1, 0): ON, (1, 1): None, (2, 0): None}, (0, 2))
        self.refused({(0, 0): ON, (0, 1): ON, (1, 0): ON, (0, 2): FIRST, (1, 1): FIRST, (2, 0): ()}, (2, 0))

    def test_more_than_eight(self):
        table = {counts: ON for counts in all_counts(2, 8)}
        self.refused(table, (0, 9))
        table.update({counts: FIRST for counts in all_counts(2, 9) if sum(counts) == 9})
        self.refused(table, (0, 9))
        self.refused({counts: ON for counts in all_counts(2, 20)}, (0, 9))
        self.refused({counts: THIRDS for counts in all_counts(2, 20)}, (0, 9))
        table[(0, 8)] = FIRST
        self.refused(table, (1, 8))
        table[(1, 7)] = SECOND
        self.refused(table, (2, 7))
        table[(3, 5)] = None
        self.refused(table, (3, 5))

    def test_more_than_eight_of_more_faces(self):
        for faces in (3, 4):
            table = {counts: one_at(4, 0) for counts in all_counts(faces, 9)}
            self.refused(table, (0,) * (faces - 1) + (9,), faces, 3)

    def test_eight(self):
        for faces in (2, 3):
            table = {counts: one_at(4, 0 if sum(counts) < 8 else 3) for counts in all_counts(faces, 8)}
            rule = rule_of(faces, 3, table)
            self.assertTold(rule, tuple((counts, table[counts]) for counts in all_counts(faces, 8)))
            self.assertIs(is_rule(faces, 3, rule), True)

    def test_a_single_row_to_eight(self):
        table = {(0, k): ON for k in range(8)}
        table[(0, 8)] = SECOND
        table.update({(1, k): FIRST for k in range(8)})
        rule = rule_of(2, 2, table)
        self.assertEqual(len(rule), 17)
        self.assertTold(most_of(rule), 8)

    def test_changed_behind(self):
        table = {(0, 0): ON, (0, 1): SECOND, (1, 0): FIRST}
        rule = rule_of(2, 2, table)
        table[(0, 0)] = FIRST
        table.pop((1, 0))
        table[(0, 1)] = [1]
        self.assertTold(rule, ONE_LOOK)


class Told(Case):
    def test_says_at(self):
        for rule in RULES + [THREE]:
            table = table_of(rule)
            for counts in all_counts(len(rule[0][0]), 5):
                if counts in table:
                    self.assertTold(says_at(rule, counts), table[counts])
                else:
                    self.assertIsNone(says_at(rule, counts))

    def test_says_at_counts_of_other_lengths(self):
        for counts in [(0, 0, 0), (0, 1, 0), (0,), (0, 0, 0, 0), (60, 0), (10 ** 40, 1)]:
            self.assertIsNone(says_at(BY_LOTS, counts))
        self.assertIsNone(says_at(THREE, (0, 0)))

    def test_most_of(self):
        self.assertTold([most_of(rule) for rule in RULES + [THREE]], [0, 1, 2, 2])
        for trial, rule in trials_and_rules(24, 60, 4):
            self.assertTold(most_of(rule), max(sum(counts) for counts, says in rule))

    def test_most_of_a_rule_that_ends_sooner_on_one_side(self):
        self.assertTold(most_of(rule_of(2, 2, {(0, 0): ON, (0, 1): FIRST, (1, 0): ON, (1, 1): FIRST, (2, 0): ON,
                                               (2, 1): FIRST, (3, 0): SECOND})), 3)

    def test_is_plain(self):
        self.assertTold([is_plain(rule) for rule in RULES], [True, True, False])
        self.assertIs(is_plain((((0, 0), HALVES),)), False)
        self.assertIs(is_plain(THREE), False)
        self.assertIs(is_plain(THREE[:-1] + (((1, 1, 0), FIRST),)), True)
        self.assertIs(is_plain((((0, 0), ON), ((0, 1), HALVES), ((1, 0), FIRST))), False)
        self.assertIs(is_plain((((0, 0), THIRDS), ((0, 1), SECOND), ((1, 0), FIRST))), False)
        self.assertEach(is_plain, all_plain_rules(2, 2, 2), True)

    def test_plain_ones_among_many(self):
        rng = random.Random(25)
        for k in range(40):
            rule = random_rule(rng, 3, 3, 2, k % 2 == 0)
            self.assertIs(is_plain(rule), all((1, 1) in says for counts, says in rule))


if __name__ == "__main__":
    unittest.main()
