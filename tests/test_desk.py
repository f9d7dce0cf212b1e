"""Promise 65, what 2 says of objects and refusals, and the interface's row "Stage 16"."""

import random
import unittest

from earlystop.aims import is_aim
from earlystop.checker import lets_paper
from earlystop.desk import Desk
from earlystop.errors import NoBack, NoLines, NoLook, NoRow, NoTrial
from earlystop.fewest import least_cost
from earlystop.fractions import shown_fraction
from earlystop.papertexts import read_paper, shown_paper
from earlystop.rules import is_plain, is_rule
from earlystop.ruletexts import read_rule, shown_rule
from earlystop.shares import average, ended, said, wrong
from earlystop.trialtexts import shown_trial
from earlystop.watches import Watch
from earlystop.worths import priced, worths
from cases import Case
from papers import ONE_LOOK, STRICT, STRICT_PAPER, TIGHT, TIGHT_PAPER
from rulesamples import FIRST, ON, SECOND, random_rule
from samples import COINS, DICE, SUITS, TRIALS, one_at, random_aim, random_prices, sizes, turn_trial

LINES = ["faces tail head", "way fair 1/2 1/2", "way loaded 1/4 3/4"]
AIM_ROW = "aim 1 1/2 1/4 1/2 1/2 3"
STRICT_ROW = "aim 1 1/2 1/5 1/2 1/2 3"
RULE_LINES = "rule 2 2; on 0 0 say 1 0 0; on 0 1 say 0 0 1; on 1 0 say 0 1 0"
LOTS = (((0, 0), ON), ((0, 1), ((1, 2), (0, 1), (1, 2))), ((1, 0), FIRST), ((0, 2), SECOND), ((1, 1), FIRST))
LOTS_LINES = "rule 2 2; on 0 0 say 1 0 0; on 0 1 say 1/2 0 1/2; on 1 0 say 0 1 0; on 0 2 say 0 0 1; on 1 1 say 0 1 0"
ENTRY_LINES = "on 0 0 say 1 0 0; on 0 1 say 0 0 1; on 1 0 say 0 1 0"
PAPER_LINES = f"paper rule 2 2; {ENTRY_LINES}; price 16 16; worth 0 0 15; worth 0 1 8; worth 1 0 4"
TWO_LOOKS = "on 0 0 say 1 0 0; on 0 1 say 1 0 0; on 1 0 say 0 1 0; on 0 2 say 0 0 1; on 1 1 say 0 1 0"
NONE_LINES = "paper none 2 2; price 16 16; worth 0 0 12; worth 0 1 8; worth 1 0 4"


def on_one_row(lines):
    return "; ".join(lines)


def words_of(some):
    return " ".join(shown_fraction(one) for one in some)


def aim_row(aim):
    most, bounds, mix, costs = aim
    return " ".join(["aim", str(most)] + [shown_fraction(one) for one in bounds + mix + costs])


def desk_with(*rows):
    desk = Desk(list(LINES))
    for row in rows:
        desk.say(row)
    return desk


def full_desk():
    """An aim, two rules, and a watch at which a lot is due."""
    return desk_with(AIM_ROW, "rule one " + RULE_LINES, "rule lots " + LOTS_LINES, "watch lots", "look head")


class Told(Case):
    def assertSays(self, desk, row, asked):
        with self.subTest(row[:200]):
            self.assertTold(desk.say(row), asked)

    def assertNoRow(self, desk, row):
        with self.subTest(row[:200]):
            self.assertRefused(NoRow, {}, desk.say, row)

    def assertNoLines(self, desk, row, line):
        with self.subTest(row[:200]):
            self.assertRefused(NoLines, {"line": line}, desk.say, row)

    def assertNoLook(self, desk, row, word):
        with self.subTest(row[:200]):
            self.assertRefused(NoLook, {"word": word}, desk.say, row)

    def assertFull(self, desk):
        """That it still answers as the full desk does; the watch is told something and taken back."""
        self.assertSays(desk, "least", "3")
        self.assertSays(desk, "check " + PAPER_LINES, "ok")
        self.assertSays(desk, "wrong one", "1/2 1/4")
        self.assertSays(desk, "wrong lots", words_of(wrong(COINS, LOTS)))
        self.assertSays(desk, "lot 3/4", "- 0 1 loaded")
        self.assertSays(desk, "back", "lot 0 1 -")


class Made(Told):
    def test_refused_as_a_trials_lines(self):
        for lines, line, word in [([], 0, 0), (LINES[:2], 2, 0), (LINES[:2] + ["way fair 1/4 3/4"], 2, 1),
                                  (LINES[:2] + ["way loaded 1/4 1/4"], 2, 2), (["faces tail"] + LINES[1:], 0, 2)]:
            self.assertRefused(NoTrial, {"line": line, "word": word}, Desk, lines)

    def test_at_first_there_is_nothing(self):
        for row in [
            "best 1 1", "least", "paper", "check " + PAPER_LINES, "told one fair", "wrong one", "watch one",
            "look head", "lot 1/2", "back",
        ]:
            self.assertNoRow(Desk(list(LINES)), row)

    def test_lines_changed_behind(self):
        lines = list(LINES)
        desk = Desk(lines)
        lines[1] = "way other 1 0"
        lines.clear()
        desk.say(AIM_ROW)
        self.assertSays(desk, "least", "3")

    def test_two_desks_keep_apart(self):
        one, other = full_desk(), Desk(list(LINES))
        self.assertNoRow(other, "least")
        other.say(STRICT_ROW)
        other.say("rule one " + LOTS_LINES)
        self.assertFull(one)


class NoRows(Told):
    ROWS = [
        "", " ", "  ", "x", "aims", "Aim 0 1 1 1 0", "AIM", "help", "-", "faces tail head", "way", "on", "say",
        "none", "price", "worth", " least", "least ", "least least", "least 1", "Least", "paper ", " paper",
        "paper rule 2 2", "paper paper", "paper none", "best", "best ", "best 1", "best 1 1 1", "best 1 1 ",
        "best  1 1", "best 1  1", " best 1 1", "best 1 x", "best 1 -1", "best -1/2 1", "best 2/4 1", "best 1/1 1",
        "best 01 1", "best +1 1", "best one 1", "best 1 1/0", "check", " check " + PAPER_LINES,
        "Check " + PAPER_LINES, "rule", "rule one", "rule ", "rule  ", "rule  " + RULE_LINES,
        " rule one " + RULE_LINES, "rule One " + RULE_LINES, "rule way " + RULE_LINES, "rule on " + RULE_LINES,
        "rule ninechars " + RULE_LINES, "rule a1 " + RULE_LINES, "rule - " + RULE_LINES, "rule " + RULE_LINES,
        "rule rule " + RULE_LINES, "rule none " + RULE_LINES, "told", "told one", "told one ", "told one fair ",
        "told one fair fair", "told  one fair", "told one  fair", " told one fair", "told other fair",
        "told one head", "told one other", "told fair one", "told one Fair", "told one 0", "wrong", "wrong ",
        "wrong other", "wrong one ", "wrong  one", "wrong one one", "wrong one lots", " wrong one", "wrong 0",
        "watch", "watch ", "watch other", "watch one ", "watch  one", "watch one one", " watch one", "look", "look ",
        "look other", "look fair", "look head ", "look  head", "look head head", " look head", "look 0", "look 1",
        "look Head", "lot", "lot ", "lot x", "lot 2/4", "lot 1/1", "lot 1/2 ", "lot  1/2", "lot 1/2 1/2", " lot 1/2",
        "lot 01", "lot -0", "lot 1/0", "lot +1/2", "lot 0.5", "lot 0/1", "lot " + "1" * 4001, "back ", " back",
        "back back", "back 1", "Back", "aim", "aim ", "aim 1", "aim 1 1/2 1/4 1/2 1/2", "aim 1 1/2 1/4 1/2 1/2 3 3",
        "aim 1 1/2 1/4 1/2 1/2 3 ", "aim  1 1/2 1/4 1/2 1/2 3", " aim 1 1/2 1/4 1/2 1/2 3", "aim 2 1/2 1/4 1/2 1/2 3",
        "aim 0 1/2 1/4 1/2 1/2 3", "aim 7 1 1 1 0 1 1 1 1 1 1 1", "aim -1 1 1 1 0", "aim 01 1/2 1/4 1/2 1/2 3",
        "aim x 1/2 1/4 1/2 1/2 3", "aim 1/2 1/4 1/2 1/2 3", "aim 1 1/2 1/4 1/2 1/3 3", "aim 1 1/2 1/4 1 1 3",
        "aim 1 1/2 5/4 1/2 1/2 3", "aim 1 -1/2 1/4 1/2 1/2 3", "aim 1 1/2 1/4 3/2 -1/2 3", "aim 1 1/2 1/4 1/2 1/2 -3",
        "aim 1 2/4 1/4 1/2 1/2 3", "aim 1 1/2 1/4 1/2 1/2 x", "aim 1 1/2 1/4 1/2 1/2 3/1",
        "aim 10 1 1 1 0" + " 1" * 10, "aim +1 1 1 1 0 1", "aim 1 1/2 1/4 1/2 1/2  3", "aim 1 1/2  1/4 1/2 1/2 3",
        "aim 6 1 1 1 0 1 1 1 1 1",
    ]

    def test_refused_and_nothing_is_changed(self):
        desk = full_desk()
        for row in self.ROWS:
            self.assertNoRow(desk, row)
        self.assertFull(desk)
        self.assertSays(desk, "back", "look 0 0 -")
        self.assertRefused(NoBack, {}, desk.say, "back")

    def test_refused_of_an_empty_desk(self):
        desk = Desk(list(LINES))
        for row in self.ROWS:
            self.assertNoRow(desk, row)
        self.assertNoRow(desk, "least")


class Aims(Told):
    def test_answers(self):
        desk = Desk(list(LINES))
        for row, least in [
            (AIM_ROW, "3"), (STRICT_ROW, "none"), ("aim 0 1/2 1/2 1 0", "0"), ("aim 0 0 0 0 1", "none"),
            ("aim 1 1/4 5/8 1/2 1/2 3", "3/2"), ("aim 6 1 1 1/2 1/2 1 1 1 1 1 1", "0"),
            ("aim 2 1/2 1/4 1/2 1/2 0 0", "0"),
        ]:
            self.assertSays(desk, row, "ok")
            self.assertSays(desk, "least", least)

    def test_the_mosts(self):
        for trial in TRIALS:
            ways = len(trial[1])
            allowed = 4 if len(trial[0]) == 4 else 6
            for most in range(10):
                desk = Desk(shown_trial(trial))
                aim = (most, ((1, 1),) * ways, one_at(ways, 0), ((1, 1),) * most)
                if most <= allowed:
                    self.assertSays(desk, aim_row(aim), "ok")
                else:
                    self.assertNoRow(desk, aim_row(aim))

    def test_least_by_chance(self):
        rng = random.Random(150)
        for k in range(40):
            trial = turn_trial(rng, k)
            desk = Desk(shown_trial(trial))
            aim = random_aim(rng, trial, rng.randint(0, 3))
            self.assertTrue(is_aim(trial, aim))
            self.assertSays(desk, aim_row(aim), "ok")
            least = least_cost(trial, aim)
            self.assertSays(desk, "least", "none" if least is None else shown_fraction(least))


class Rules(Told):
    def test_told_and_wrong(self):
        desk = full_desk()
        self.assertSays(desk, "told one loaded", "1/4 3/4 0 1 1")
        self.assertSays(desk, "told one fair", "1/2 1/2 0 1 1")
        self.assertSays(desk, "told lots loaded", "11/32 21/32 0 5/8 3/8 11/8")
        self.assertSays(desk, "wrong one", "1/2 1/4")
        self.assertSays(desk, "wrong lots", "3/8 11/32")

    def test_rules_by_chance(self):
        rng = random.Random(151)
        for k in range(30):
            trial = turn_trial(rng, k)
            desk = Desk(shown_trial(trial))
            rule = random_rule(rng, *sizes(trial), rng.randint(0, 2), k % 2 == 0)
            self.assertSays(desk, "rule some " + on_one_row(shown_rule(rule)), "ok")
            self.assertSays(desk, "wrong some", words_of(wrong(trial, rule)))
            for way, (name, shares) in enumerate(trial[1]):
                told = said(trial, rule, way) + ended(trial, rule, way) + (average(trial, rule, way),)
                self.assertSays(desk, f"told some {name}", words_of(told))

    def test_a_rule_in_the_place_of_another(self):
        desk = full_desk()
        self.assertSays(desk, "rule one rule 2 2; on 0 0 say 0 1 0", "ok")
        self.assertSays(desk, "wrong one", "0 1")
        self.assertSays(desk, "told one fair", "1 0 1 0")
        self.assertSays(desk, "wrong lots", "3/8 11/32")

    def test_names_of_rules(self):
        desk = desk_with("rule fair rule 2 2; on 0 0 say 0 1 0", "rule head rule 2 2; on 0 0 say 0 0 1")
        self.assertSays(desk, "told fair fair", "1 0 1 0")
        self.assertSays(desk, "told head fair", "0 1 1 0")
        for name in ["a", "abcdefgh", "aim", "least", "check", "told", "look", "paper", "best", "watch"]:
            self.assertSays(desk, f"rule {name} {RULE_LINES}", "ok")
            self.assertSays(desk, f"wrong {name}", "1/2 1/4")

    def test_refused_lines_change_nothing(self):
        desk = full_desk()
        for lines, line in [
            ("", 0), (" ", 0), (" " + RULE_LINES, 0), ("rule 2", 0), ("rule 1 2", 0), ("rule 2 5; on", 0),
            ("rule 2 2; ", 1), ("rule 2 2;on 0 0 say 0 1 0", 0), ("rule 2 2;  on 0 0 say 0 1 0", 1),
            (RULE_LINES + ";", 3), (RULE_LINES + "; ", 4), (RULE_LINES + " ", 3),
            (RULE_LINES.replace("0 1 0", "0 2/2 0"), 3), (RULE_LINES.replace("on 1 0",             "on 1 -0"), 3),
            (PAPER_LINES, 0), ("rule 2 2; price 1 1", 1), (RULE_LINES.replace("; on 1", "; on on 1"), 3),
            ("one " + RULE_LINES, 0),
        ]:
            for name in ("one", "lots", "other"):
                self.assertNoLines(desk, f"rule {name} {lines}", line)
        self.assertNoRow(desk, "wrong other")
        self.assertFull(desk)

    def test_no_rule_of_the_trial(self):
        desk = full_desk()
        for lines in [
            "rule 2 2", "rule 3 2; on 0 0 0 say 0 1 0", "rule 2 3; on 0 0 say 0 1 0 0", "rule 2 2; on 0 0 say 1 0 0",
            "rule 2 2; on 0 0 say 0 1 1", "rule 2 2; on 0 0 say 0 2 -1",
            "rule 2 2; on 0 0 say 0 1 0; on 0 0 say 0 1 0", "rule 2 2; on 0 1 say 0 1 0",
            "rule 2 2; on 0 0 say 0 1 0; on 0 1 say 0 1 0", RULE_LINES + "; on 2 0 say 0 1 0",
            "rule 2 2; on 0 0 say 1 0 0; on 1 0 say 0 1 0; on 0 1 say 0 0 1", "rule 3 3",
            "rule 4 4; on 0 0 0 0 say 0 1 0 0 0",
        ]:
            for name in ("one", "lots", "other"):
                self.assertNoRow(desk, f"rule {name} {lines}")
        self.assertNoRow(desk, "watch other")
        self.assertFull(desk)

    def test_a_wrong_name_ahead_of_wrong_lines(self):
        desk = full_desk()
        for name in ("", "One", "way", "x1", "ninechars"):
            self.assertNoRow(desk, f"rule {name} rule 2")
        self.assertFull(desk)


class Papers(Told):
    def test_by_hand(self):
        desk = full_desk()
        told = desk.say("paper")
        self.assertTrue(told.startswith(RULE_LINES.replace("rule 2 2", "paper rule 2 2") + "; price "))
        self.assertSays(desk, "check " + told, "ok")
        desk.say(STRICT_ROW)
        told = desk.say("paper")
        self.assertTrue(told.startswith("paper none 2 2; price "))
        self.assertSays(desk, "check " + told, "ok")

    def test_best_by_hand(self):
        desk = desk_with("aim 1 1/2 1/4 1/2 1/2 1/2")
        self.assertSays(desk, "best 6 6", RULE_LINES)
        desk.say("aim 1 1/2 1/4 1/2 1/2 3")
        self.assertSays(desk, "best 6 7", "rule 2 2; on 0 0 say 0 0 1")
        self.assertSays(desk, "best 13/2 6", "rule 2 2; on 0 0 say 0 1 0")

    def test_by_chance(self):
        rng = random.Random(152)
        for k in range(40):
            trial = turn_trial(rng, k)
            desk = Desk(shown_trial(trial))
            aim, prices = random_aim(rng, trial, rng.randint(0, 3)), random_prices(rng, trial)
            desk.say(aim_row(aim))
            rule = read_rule(desk.say("best " + words_of(prices)).split("; "))
            self.assertTrue(is_rule(*sizes(trial), rule) and is_plain(rule))
            self.assertTold(priced(trial, rule, aim, prices), worths(trial, aim, prices)[0][1])
            told = desk.say("paper")
            self.assertIs(lets_paper(trial, aim, read_paper(told.split("; "))), True)
            self.assertSays(desk, "check " + told, "ok")

    def test_the_greatest(self):
        desk = Desk(shown_trial(SUITS))
        desk.say("aim 4 1/2 1/2 1/2 1/9 1/4 1/4 1/4 1/4 1 1 1 1")
        self.assertSays(desk, "check " + desk.say("paper"), "ok")
        desk = Desk(shown_trial(DICE))
        desk.say("aim 6 1/3 1/3 1/3 1/3 1/3 1/3 1 1 1 1 1 1")
        self.assertSays(desk, "check " + desk.say("paper"), "ok")

    def test_checked(self):
        desk = full_desk()
        for lines, asked in [
            (PAPER_LINES, "ok"), (NONE_LINES, "sum -"),
            (PAPER_LINES.replace("worth 0 1 8", "worth 0 1 9"), "worth 0 1"),
            (PAPER_LINES.replace("worth 0 0 15",             "worth 0 0 16"), "worth 0 0"),
            (PAPER_LINES.replace("worth 0 0 15", "worth 0 0 14"), "sum -"),
            (PAPER_LINES.replace("price 16",             "price -16"), "shape -"),
            (PAPER_LINES.replace("; worth 1 0 4", ""), "shape -"),
            (PAPER_LINES.replace("; on 1 0 say 0 1 0", ""),             "rule -"),
            ("paper none 3 3; price 1 1 1", "shape -"), ("paper rule 2 2; price 1 1", "shape -"),
            (PAPER_LINES.replace(ENTRY_LINES, "on 0 0 say 0 1 0"), "wrong 1"),
            (PAPER_LINES.replace(ENTRY_LINES, "on 0 0 say 0 0 1"), "wrong 0"),
            (PAPER_LINES.replace(ENTRY_LINES, TWO_LOOKS), "most 0 2"),
        ]:
            self.assertSays(desk, "check " + lines, asked)
        self.assertFull(desk)
        desk.say(STRICT_ROW)
        self.assertSays(desk, "check " + NONE_LINES, "ok")
        self.assertSays(desk, "check " + PAPER_LINES, "wrong 1")

    def test_checked_by_lines_that_write_the_samples(self):
        self.assertTold(on_one_row(shown_paper(TIGHT_PAPER)), PAPER_LINES)
        self.assertTold(on_one_row(shown_paper(STRICT_PAPER)), NONE_LINES)
        self.assertTold((aim_row(TIGHT), aim_row(STRICT)), (AIM_ROW, STRICT_ROW))
        self.assertTold(on_one_row(shown_rule(ONE_LOOK)), RULE_LINES)
        self.assertTold(on_one_row(shown_rule(LOTS)), LOTS_LINES)

    def test_refused_lines(self):
        desk = full_desk()
        for lines, line in [
            ("", 0), (" ", 0), (" " + PAPER_LINES, 0), ("paper rule 2 2", 1), ("paper none 2 2", 1), (RULE_LINES, 0),
            (PAPER_LINES + "; ", 8), (PAPER_LINES + " ", 7), (PAPER_LINES + ";", 7),
            (PAPER_LINES.replace("; price", ";price"), 3), ("paper none 2 2; price 1", 1),
            (PAPER_LINES.replace("price 16 16; ", ""), 4), (PAPER_LINES.replace("paper rule", "paper none"), 1),
            ("check", 0),
        ]:
            self.assertNoLines(desk, "check " + lines, line)
        self.assertFull(desk)

    def test_no_aim_goes_ahead_of_wrong_lines(self):
        desk = desk_with("rule one " + RULE_LINES)
        for row in ["check " + PAPER_LINES, "check paper", "check ", "best 1 1", "least", "paper"]:
            self.assertNoRow(desk, row)

    def test_long_numbers(self):
        desk = desk_with("aim 0 1/3 1/3 1/2 1/2")
        long = "7" * 4000
        self.assertSays(desk, f"check paper none 2 2; price {long} {long}; worth 0 0 {long}", "ok")
        self.assertSays(desk, f"check paper none 2 2; price {long} {long}; worth 0 0 {long}/2", "sum -")
        self.assertNoLines(desk, f"check paper none 2 2; price {long}7 {long}; worth 0 0 {long}", 1)


class Watches(Told):
    def test_by_hand(self):
        desk = desk_with("rule lots " + LOTS_LINES)
        self.assertSays(desk, "watch lots", "ok")
        self.assertSays(desk, "look head", "lot 0 1 -")
        self.assertSays(desk, "lot 0", "look 0 1 -")
        self.assertSays(desk, "look tail", "- 1 1 fair")
        self.assertSays(desk, "back", "look 0 1 -")
        self.assertSays(desk, "look head", "- 0 2 loaded")
        self.assertSays(desk, "back", "look 0 1 -")
        self.assertSays(desk, "back", "lot 0 1 -")
        self.assertSays(desk, "lot 1/2", "- 0 1 loaded")
        self.assertSays(desk, "back", "lot 0 1 -")
        self.assertSays(desk, "back", "look 0 0 -")
        self.assertSays(desk, "look tail", "- 1 0 fair")

    def test_refused_as_the_watch_refuses(self):
        desk = full_desk()
        self.assertNoLook(desk, "look head", "lot")
        for word in ("1", "-1/2", "3/2", "7", "-1"):
            self.assertNoLook(desk, "lot " + word, "share")
        self.assertFull(desk)
        desk.say("lot 1/3")
        self.assertNoLook(desk, "lot 1/3", "look")
        self.assertNoLook(desk, "lot 7", "look")
        desk.say("look head")
        self.assertNoLook(desk, "look head", "said")
        self.assertNoLook(desk, "lot 1/3", "said")
        self.assertNoLook(desk, "lot 7", "said")
        for step in range(3):
            desk.say("back")
        self.assertRefused(NoBack, {}, desk.say, "back")
        self.assertSays(desk, "look head", "lot 0 1 -")

    def test_words_of_no_kind_go_ahead_of_what_the_watch_refuses(self):
        desk = full_desk()
        self.assertNoRow(desk, "look other")
        desk.say("lot 3/4")
        for row in ["look other", "lot x", "lot 2/4", "look", "lot", "look head head", "back 1"]:
            self.assertNoRow(desk, row)
        self.assertSays(desk, "back", "lot 0 1 -")

    def test_begun_anew(self):
        desk = full_desk()
        self.assertSays(desk, "watch lots", "ok")
        self.assertRefused(NoBack, {}, desk.say, "back")
        self.assertSays(desk, "look tail", "- 1 0 fair")
        self.assertSays(desk, "watch one", "ok")
        self.assertSays(desk, "look head", "- 0 1 loaded")

    def test_a_watch_goes_on_along_the_rule_that_it_was_begun_with(self):
        desk = full_desk()
        desk.say("rule lots rule 2 2; on 0 0 say 0 1 0")
        self.assertSays(desk, "lot 1/4", "look 0 1 -")
        self.assertSays(desk, "look head", "- 0 2 loaded")
        desk.say("watch lots")
        self.assertNoLook(desk, "look head", "said")

    def test_a_refused_watch_leaves_the_other_one(self):
        desk = full_desk()
        self.assertNoRow(desk, "watch other")
        self.assertFull(desk)

    def test_over_at_the_noughts(self):
        desk = desk_with("rule now rule 2 2; on 0 0 say 0 0 1", "watch now")
        self.assertNoLook(desk, "look head", "said")
        self.assertRefused(NoBack, {}, desk.say, "back")

    def test_by_chance_beside_a_watch(self):
        rng = random.Random(153)
        for k in range(30):
            trial = turn_trial(rng, k)
            rule = random_rule(rng, *sizes(trial), 2, k % 3 > 0)
            desk = Desk(shown_trial(trial))
            desk.say("rule some " + on_one_row(shown_rule(rule)))
            desk.say("watch some")
            watch = Watch(rule)
            for step in range(8):
                face = rng.randrange(len(trial[0]))
                share = rng.choice([(0, 1), (1, 3), (1, 2), (5, 6), (1, 1)])
                row, call = rng.choice([
                    (f"look {trial[0][face]}", lambda: watch.look(face)),
                    (f"lot {shown_fraction(share)}", lambda: watch.lot(share)),
                    ("back", watch.back)])
                self.assertSameDeed(desk, row, trial, watch, call)

    def assertSameDeed(self, desk, row, trial, watch, call):
        try:
            call()
        except NoLook as refused:
            self.assertNoLook(desk, row, refused.word)
            return
        except NoBack:
            self.assertRefused(NoBack, {}, desk.say, row)
            return
        name = "-" if watch.way() is None else trial[1][watch.way()][0]
        self.assertSays(desk, row, " ".join([watch.due() or "-"] + [str(count) for count in watch.seen()] + [name]))


class Whole(Told):
    def test_each_answer_holds_again(self):
        rows = ["least", "best 6 6", "told one fair", "wrong one", "told lots loaded"]
        desk = full_desk()
        told = {row: desk.say(row) for row in rows}
        for row in rows + rows[::-1]:
            self.assertTold(desk.say(row), told[row])
        self.assertFull(desk)


if __name__ == "__main__":
    unittest.main()
