"""Promises 51 and 52, and what the interface's row "Stage 14" says of papers."""

import copy
import random
import unittest

from earlystop.checker import lets_paper
from earlystop.fewest import fewest
from earlystop.papertexts import read_paper, shown_paper
from cases import Case
from linesamples import Reads, asked_paper, gone_wrong, long_fraction
from papers import HALVES, ONE_LOOK, STRICT_PAPER, TIGHT, TIGHT_PAPER
from samples import COINS, SUITS, random_aim, turn_trial

RULE_LINES = [
    "paper rule 2 2", "on 0 0 say 1 0 0", "on 0 1 say 0 0 1", "on 1 0 say 0 1 0", "price 16 16", "worth 0 0 15",
    "worth 0 1 8",
    "worth 1 0 4"]
NONE_LINES = ["paper none 2 2", "price 16 16", "worth 0 0 12", "worth 0 1 8", "worth 1 0 4"]
PRICE = 4


class Shown(Case):
    def test_by_hand(self):
        self.assertTold(shown_paper(TIGHT_PAPER), RULE_LINES)
        self.assertTold(shown_paper(STRICT_PAPER), NONE_LINES)
        paper = ("none", ((1, 3), (0, 1), (5, 2)), (((0, 0, 0, 0), (-1, 7)),))
        self.assertTold(shown_paper(paper), ["paper none 4 3", "price 1/3 0 5/2", "worth 0 0 0 0 -1/7"])

    def test_what_is_written_is_read_as_the_very_tuple(self):
        rng = random.Random(130)
        words = []
        for k in range(60):
            trial = turn_trial(rng, k)
            aim = random_aim(rng, trial, rng.randint(0, 3))
            paper = fewest(trial, aim)
            lines = shown_paper(paper)
            self.assertIs(type(lines), list)
            self.assertEqual(asked_paper(lines), paper)
            self.assertTold(read_paper(lines), paper)
            words.append(paper[0])
        self.assertEqual(set(words), {"rule", "none"})

    def test_the_greatest_aim(self):
        aim = (4, ((1, 2), (1, 3), (1, 2), (1, 9)), ((1, 4),) * 4, ((1, 1),) * 4)
        paper = fewest(SUITS, aim)
        self.assertTold(read_paper(shown_paper(paper)), paper)

    def test_numbers_of_many_figures(self):
        rng = random.Random(131)
        for figures in (60, 1000, 4000):
            one, other = long_fraction(rng, figures), long_fraction(rng, figures)
            paper = ("none", (one, other), (((0, 0), (-one[0], one[1])),))
            self.assertTold(read_paper(shown_paper(paper)), paper)
        factor = 10 ** 3900
        paper = ("none", ((factor, 1), (factor, 1)), (((0, 0), (factor, 1)),))
        aim = (0, ((1, 3), (1, 3)), HALVES, ())
        self.assertIs(lets_paper(COINS, aim, read_paper(shown_paper(paper))), True)

    def test_what_is_told_is_the_askers_own(self):
        told = shown_paper(TIGHT_PAPER)
        told.pop()
        told[0] = ""
        self.assertTold(shown_paper(TIGHT_PAPER), RULE_LINES)
        lines = list(RULE_LINES)
        read = read_paper(lines)
        lines.clear()
        self.assertTold(read, TIGHT_PAPER)


class Read(Reads):
    read = staticmethod(read_paper)

    def test_not_whether_it_is_a_paper(self):
        self.assertReads(["paper none 2 2", "price 1 1"], ("none", ((1, 1), (1, 1)), ()))
        self.assertReads(["paper rule 2 2", "price 1 1"], ("rule", (), ((1, 1), (1, 1)), ()))
        self.assertReads(RULE_LINES[:PRICE + 1], TIGHT_PAPER[:3] + ((),))
        self.assertReads(RULE_LINES[:1] + RULE_LINES[PRICE:], ("rule", ()) + TIGHT_PAPER[2:])
        # In another order, twice: read as they are written.
        worths = TIGHT_PAPER[3]
        self.assertReads(RULE_LINES[:PRICE + 1] + RULE_LINES[:PRICE:-1], TIGHT_PAPER[:3] + (worths[::-1],))
        self.assertReads(RULE_LINES + RULE_LINES[PRICE + 1:], TIGHT_PAPER[:3] + (worths + worths,))
        self.assertReads(RULE_LINES[:1] + RULE_LINES[3:0:-1] + RULE_LINES[PRICE:],
                         ("rule", ONE_LOOK[::-1]) + TIGHT_PAPER[2:])
        self.assertReads(["paper none 2 2", "price -1/2 3", "worth 9 9 -1/3"],
                         ("none", ((-1, 2), (3, 1)), (((9, 9), (-1, 3)),)))
        self.assertReads(["paper rule 2 2", "on 0 0 say 7 7 7", "price 0 0"],
                         ("rule", (((0, 0), ((7, 1),) * 3),), ((0, 1), (0, 1)), ()))

    def test_a_line_has_to_come(self):
        self.assertReads([], 0)
        self.assertReads(["paper none 2 2"], 1)
        self.assertReads(["paper rule 2 2"], 1)
        for many in range(1, PRICE + 1):
            self.assertReads(RULE_LINES[:many], many)

    def test_heads(self):
        for head in [
            "", " ", "paper", "paper rule", "paper none", "paper rule 2", "paper 2 2", "rule 2 2", "none 2 2",
            "paper rule 2 2 2", "paper rule 1 2", "paper rule 2 1", "paper none 5 2", "paper none 2 5",
            "paper rule 02 2", "paper rule 2 +2", "paper rule  2 2", " paper rule 2 2", "paper  rule 2 2",
            "paper rule 2 2 ", "Paper rule 2 2", "paper Rule 2 2", "paper both 2 2", "paper  2 2",
            "paper rule none 2 2", "paper rule -2 2", "paper none 2/1 2", "price 16 16",
        ]:
            for lines in (RULE_LINES, NONE_LINES):
                self.assertReads([head] + lines[1:], 0)
            self.assertReads([head], 0)

    def test_a_head_of_the_other_kind(self):
        # Behind "none" no entry stands; behind "rule" none has to.
        self.assertReads(["paper none 2 2"] + RULE_LINES[1:], 1)
        self.assertReads(["paper rule 2 2"] + NONE_LINES[1:], ("rule", ()) + STRICT_PAPER[1:])

    def test_sorts_in_another_order(self):
        entry, price, worth = RULE_LINES[1], RULE_LINES[PRICE], RULE_LINES[PRICE + 1]
        self.assertReads(["paper rule 2 2", price, entry], 2)
        self.assertReads(["paper rule 2 2", entry, worth, price], 2)
        self.assertReads(["paper rule 2 2", worth], 1)
        self.assertReads(["paper rule 2 2", entry, price, price], 3)
        self.assertReads(["paper rule 2 2", entry, price, worth, entry], 4)
        self.assertReads(["paper rule 2 2", entry, price, worth, price], 4)
        self.assertReads(["paper none 2 2", price, worth, worth, entry], 4)
        self.assertReads(["paper none 2 2", worth, price], 1)
        self.assertReads(["paper rule 2 2", "paper rule 2 2", price], 1)

    def test_entries(self):
        for line in [
            "", "on", "on 0 0 say 1 0", "on 0 0 say 1 0 0 0", "on 0 say 1 0 0", "on 0 -1 say 1 0 0",
            "on 0 00 say 1 0 0", "on 0 0 say 2/4 1/2 0", "on 0 0 say 1 0 0 ", "rule 2 2", "On 0 0 say 1 0 0",
        ]:
            for place in (1, 2, PRICE):
                self.assertReads(RULE_LINES[:place] + [line] + RULE_LINES[place:], place)

    def test_prices(self):
        for line in [
            "", "price", "price ", "price 16", "price 16 16 16", "price 16 16 ", " price 16 16", "price  16 16",
            "Price 16 16", "prices 16 16", "16 16", "price 16 x", "price 16 2/4", "price 1/1 1", "price 01 1",
            "price +1 1", "price -0 1", "price 16 " + "1" * 4001, "worth 0 0 1", "none",
        ]:
            self.assertReads(RULE_LINES[:PRICE] + [line] + RULE_LINES[PRICE + 1:], PRICE)
            self.assertReads(NONE_LINES[:1] + [line] + NONE_LINES[2:], 1)
        for ways in (2, 3, 4):
            for many in range(6):
                line = " ".join(["price"] + ["1/2"] * many)
                asked = ("none", ((1, 2),) * ways, ()) if many == ways else 1
                self.assertReads([f"paper none 2 {ways}", line], asked)

    def test_worths(self):
        for line in [
            "", "worth", "worth 0 0", "worth 0 0 0 0", "worth 0 0 1 ", " worth 0 0 1", "worth  0 0 1", "worth 0 0  1",
            "Worth 0 0 1", "worths 0 0 1", "0 0 1", "worth -1 0 1", "worth 0 00 1", "worth 0 1/2 1", "worth 0 0 2/4",
            "worth 0 0 1/1", "worth 0 0 +1", "worth 0 0 -0", "worth 0 0 -", "worth 0 0 x", "price 16 16",
            "worth 0 " + "1" * 4001 + " 1", "worth 0 0 " + "1" * 4001, "on 0 0 say 1 0 0",
        ]:
            for place in (PRICE + 1, PRICE + 2, len(RULE_LINES)):
                self.assertReads(RULE_LINES[:place] + [line] + RULE_LINES[place:], place)
            for place in (2, len(NONE_LINES)):
                self.assertReads(NONE_LINES[:place] + [line] + NONE_LINES[place:], place)
        for faces in (2, 3, 4):
            for many in range(6):
                line = " ".join(["worth"] + ["1"] * many + ["1/2"])
                asked = ("none", ((0, 1),) * 2, (((1,) * faces, (1, 2)),)) if many == faces else 2
                self.assertReads([f"paper none {faces} 2", "price 0 0", line], asked)

    def test_lines_gone_wrong(self):
        rng = random.Random(132)
        refused = 0
        for k in range(40):
            trial = turn_trial(rng, k)
            lines = shown_paper(fewest(trial, random_aim(rng, trial, rng.randint(0, 2))))
            for step in range(20):
                wrong = gone_wrong(rng, lines)
                asked = asked_paper(wrong)
                refused += isinstance(asked, int)
                self.assertReads(wrong, asked)
        self.assertGreater(refused, 300)

    def test_what_is_handed_in_stays(self):
        paper = fewest(COINS, TIGHT)
        kept_paper = copy.deepcopy(paper)
        shown_paper(paper)
        self.assertTold(paper, kept_paper)
        for lines in (RULE_LINES, NONE_LINES, RULE_LINES + ["on"], []):
            kept = copy.deepcopy(lines)
            self.assertReads(lines, asked_paper(lines))
            self.assertReads(lines, asked_paper(lines))
            self.assertTold(lines, kept)


if __name__ == "__main__":
    unittest.main()
