"""Promises 50 and 52, and what the interface's row "Stage 14" says of rules."""

import copy
import random
import unittest

from earlystop.ruletexts import read_rule, shown_rule
from cases import Case
from linesamples import Reads, asked_rule, gone_wrong, long_fraction
from rulesamples import FIRST, ON, SECOND, trials_and_rules

RULE = (((0, 0), ON), ((0, 1), ((1, 2), (1, 3), (1, 6))), ((1, 0), FIRST), ((0, 2), SECOND), ((1, 1), FIRST))
LINES = [
    "rule 2 2", "on 0 0 say 1 0 0", "on 0 1 say 1/2 1/3 1/6", "on 1 0 say 0 1 0", "on 0 2 say 0 0 1",
    "on 1 1 say 0 1 0",
]


class Shown(Case):
    def test_by_hand(self):
        self.assertTold(shown_rule(RULE), LINES)
        self.assertTold(shown_rule((((0, 0, 0), ((0, 1), (1, 4), (3, 4))),)), ["rule 3 2", "on 0 0 0 say 0 1/4 3/4"])
        four = (((0, 0), ((0, 1), (1, 4), (1, 4), (1, 4), (1, 4))),)
        self.assertTold(shown_rule(four), ["rule 2 4", "on 0 0 say 0 1/4 1/4 1/4 1/4"])

    def test_what_is_written_is_read_as_the_very_tuple(self):
        for trial, rule in trials_and_rules(120, 60):
            lines = shown_rule(rule)
            self.assertIs(type(lines), list)
            self.assertEqual(asked_rule(lines), rule)
            self.assertTold(read_rule(lines), rule)

    def test_fractions_of_many_figures(self):
        rng = random.Random(121)
        for figures in (60, 1000, 4000):
            upper, lower = sorted(long_fraction(rng, figures))
            rule = (((0, 0), ((0, 1), (upper, lower), (lower - upper, lower))),)
            self.assertTold(read_rule(shown_rule(rule)), rule)

    def test_what_is_told_is_the_askers_own(self):
        told = shown_rule(RULE)
        told.append("on")
        told[0] = ""
        self.assertTold(shown_rule(RULE), LINES)
        lines = list(LINES)
        read = read_rule(lines)
        lines.clear()
        self.assertTold(read, RULE)


class Read(Reads):
    read = staticmethod(read_rule)

    def test_not_whether_it_is_a_rule(self):
        self.assertReads(["rule 2 2"], ())
        self.assertReads(["rule 4 3"], ())
        self.assertReads(LINES[:3], RULE[:2])
        self.assertReads(LINES[:1] + LINES[:0:-1], RULE[::-1])
        self.assertReads(LINES + LINES[1:], RULE + RULE)
        self.assertReads(["rule 2 2", "on 7 100 say -1/2 5 7/3"], (((7, 100), ((-1, 2), (5, 1), (7, 3))),))
        self.assertReads(["rule 2 2", "on 0 0 say 1 1 1", "on 0 0 say 0 0 0"],
                         (((0, 0), ((1, 1),) * 3), ((0, 0), ((0, 1),) * 3)))
        long = "9" * 4000
        self.assertReads(["rule 2 2", f"on {long} 0 say {long} -{long} 1/{long}"],
                         (((int(10 ** 4000 - 1), 0), ((10 ** 4000 - 1, 1), (1 - 10 ** 4000, 1), (1, 10 ** 4000 - 1))),))

    def test_no_lines(self):
        self.assertReads([], 0)

    def test_heads(self):
        for head in [
            "", " ", "rule", "rule 2", "rule 2 2 2", "rule 1 2", "rule 2 1", "rule 5 2", "rule 2 5", "rule 0 2",
            "rule 2 -2", "rule 02 2", "rule 2 +2", "rule 2/1 2", "rule 2  2", " rule 2 2", "rule 2 2 ", "rule  2 2",
            "Rule 2 2", "rules 2 2", "paper rule 2 2", "on 0 0 say 1 0 0", "2 2", "rule two 2", "rule 22 2",
            "rule 2 2;", "rule 2.0 2", "rule 2 22",
        ]:
            self.assertReads([head] + LINES[1:], 0)
            self.assertReads([head], 0)

    def test_entries(self):
        for line in [
            "", " ", "on", "on 0 0", "on 0 0 say", "on 0 0 say 1 0", "on 0 0 say 1 0 0 0", "on 0 say 1 0 0",
            "on 0 0 0 say 1 0 0", "on 0 0 1 0 0", "on 0 0 say say 1 0 0", "on on 0 0 say 1 0 0", "0 0 say 1 0 0",
            "say 1 0 0", "on say 0 0 1 0 0", "On 0 0 say 1 0 0", "on 0 0 Say 1 0 0", "on -1 0 say 1 0 0",
            "on 0 -0 say 1 0 0", "on 00 0 say 1 0 0", "on 0 01 say 1 0 0", "on 0 +1 say 1 0 0", "on 0 1/2 say 1 0 0",
            "on 0 2/1 say 1 0 0", "on 0 0 say 2/4 1/2 0", "on 0 0 say 1/1 0 0", "on 0 0 say 0/1 1 0",
            "on 0 0 say 01 0 0", "on 0 0 say -0 1 0", "on 0 0 say 1/0 0 0", "on 0 0 say 1 0 0 ", " on 0 0 say 1 0 0",
            "on  0 0 say 1 0 0", "on 0 0  say 1 0 0", "on 0 0 say 1  0 0", "on 0 0 say 1 0 x", "on 0 0 say 1 0 -",
            "price 1 1", "worth 0 0 1", "rule 2 2", "on 0 0 say +1 0 0", "on 0 0 say 1/2/2 0 0",
            "on 0 0 say 1/-2 0 0", "on 0 0 say 1/02 0 0", "on " + "1" * 4001 + " 0 say 1 0 0",
            "on 0 0 say " + "1" * 4001 + " 0 0", "on 0 0 say 1/" + "1" * 4001 + " 0 0",
        ]:
            for place in (1, 3, len(LINES)):
                self.assertReads(LINES[:place] + [line] + LINES[place:], place)
            self.assertReads(["rule 2 2", line, line], 1)

    def test_as_many_as_the_head_tells(self):
        for faces in (2, 3, 4):
            for ways in (2, 3, 4):
                for many in range(1, 6):
                    for says in range(1, 7):
                        line = " ".join(["on"] + ["1"] * many + ["say"] + ["1/2"] * says)
                        asked = (((1,) * faces, ((1, 2),) * (1 + ways)),) if (many, says) == (faces, 1 + ways) else 1
                        self.assertReads([f"rule {faces} {ways}", line], asked)

    def test_the_first_line_that_cannot_stand(self):
        self.assertReads(["rule 2 2", "on", "on"], 1)
        self.assertReads(["rule 5 2", "on"], 0)
        self.assertReads(LINES[:4] + ["", "on"], 4)

    def test_lines_gone_wrong(self):
        rng = random.Random(122)
        refused = 0
        for trial, rule in trials_and_rules(123, 40, 2):
            for step in range(15):
                lines = gone_wrong(rng, shown_rule(rule))
                asked = asked_rule(lines)
                refused += isinstance(asked, int)
                self.assertReads(lines, asked)
        self.assertGreater(refused, 200)

    def test_what_is_handed_in_stays(self):
        for lines in (LINES, LINES + ["on"], []):
            kept = copy.deepcopy(lines)
            self.assertReads(lines, asked_rule(lines))
            self.assertReads(lines, asked_rule(lines))
            self.assertTold(lines, kept)


if __name__ == "__main__":
    unittest.main()
