"""Promises 24 and 25, and the interface's row "Stage 5, amounts"."""

import unittest

import brute
from earlystop.amounts import amounts
from earlystop.fractions import times
from earlystop.looks import all_counts, rows_to, weight
from earlystop.rules import is_plain, rule_of
from cases import Case
from rulesamples import FIRST, ON, SECOND, trials_and_rules
from samples import one_at, pair


class Amounts(Case):
    def test_by_hand(self):
        self.assertTold(amounts((((0, 0), FIRST),)), (((0, 0), (1, 1)),))
        self.assertTold(amounts((((0, 0), ON), ((0, 1), SECOND), ((1, 0), FIRST))),
                        (((0, 0), (1, 1)), ((0, 1), (1, 1)), ((1, 0), (1, 1))))
        by_lots = (((0, 0), ((1, 3), (1, 3), (1, 3))), ((0, 1), ON), ((1, 0), ((1, 4), (3, 4), (0, 1))),
                   ((0, 2), FIRST), ((1, 1), SECOND), ((2, 0), FIRST))
        self.assertTold(amounts(by_lots), (
            ((0, 0), (1, 1)), ((0, 1), (1, 3)), ((1, 0), (1, 3)), ((0, 2), (1, 3)), ((1, 1), (5, 12)), ((2, 0), (1, 12))))

    def test_counts_come_to_by_some_faces_alone(self):
        rule = rule_of(2, 2, {(0, 0): ON, (0, 1): SECOND, (1, 0): ON, (1, 1): ON, (2, 0): FIRST, (1, 2): SECOND,
                              (2, 1): FIRST})
        self.assertTold(amounts(rule), (
            ((0, 0), (1, 1)), ((0, 1), (1, 1)), ((1, 0), (1, 1)), ((1, 1), (1, 1)), ((2, 0), (1, 1)), ((1, 2), (1, 1)),
            ((2, 1), (1, 1))))

    def test_never_stopped_ahead(self):
        for faces in (2, 3, 4):
            table = {counts: one_at(3, 0 if sum(counts) < 4 else 1) for counts in all_counts(faces, 4)}
            self.assertTold(amounts(rule_of(faces, 2, table)),
                            tuple((counts, (rows_to(counts), 1)) for counts in all_counts(faces, 4)))

    def test_against_all_rows(self):
        for trial, rule in trials_and_rules(26, 80):
            asked = brute.amounts(rule)
            self.assertTold(amounts(rule), tuple((counts, pair(asked[counts])) for counts, says in rule))

    def test_whole_numbers_of_plain_rules_and_above_nought_of_all(self):
        for trial, rule in trials_and_rules(27, 40):
            for counts, amount in amounts(rule):
                self.assertGreater(amount[0], 0)
                if is_plain(rule):
                    self.assertEqual(amount[1], 1)

    def test_share_of_coming_to_counts(self):
        for trial, rule in trials_and_rules(28, 40):
            for way in range(len(trial[1])):
                met = {}
                for row, word, share in brute.stops(trial, rule, way):
                    for looks in range(len(row) + 1):
                        counts = brute.seen_counts(row[:looks], len(trial[0]))
                        met[counts] = met.get(counts, 0) + share
                for counts, amount in amounts(rule):
                    self.assertTold(times(amount, weight(trial, way, counts)), pair(met[counts]))

    def test_rules_of_eight(self):
        table = {counts: ON if sum(counts) < 8 else FIRST for counts in all_counts(2, 8)}
        self.assertTold(amounts(rule_of(2, 2, table))[-5], ((4, 4), (70, 1)))


if __name__ == "__main__":
    unittest.main()
