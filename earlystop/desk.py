"""A desk: told rows of words, it keeps an aim, rules by names and a watch, and answers by words."""

from earlystop.aims import are_prices, is_aim
from earlystop.best import best_rule
from earlystop.checker import lets_paper
from earlystop.errors import NoPaper, NoRow
from earlystop.fewest import fewest, least_cost
from earlystop.fractions import shown_fraction
from earlystop.linewords import read_fractions, shown_counts, shown_fractions
from earlystop.names import is_name
from earlystop.papertexts import read_paper, shown_paper
from earlystop.rules import is_rule
from earlystop.ruletexts import read_rule, shown_rule
from earlystop.shares import average, ended, said, wrong
from earlystop.trials import face_called, faces_of, way_called, ways_of
from earlystop.trialtexts import read_trial
from earlystop.watches import Watch

DONE = "ok"
NOTHING = "-"
LINE_END = "; "
MOST_WORDS = ("0", "1", "2", "3", "4", "5", "6")
MOST_WORDS_OF_FOUR_FACES = ("0", "1", "2", "3", "4")


class Desk:
    def __init__(self, lines):
        self.trial = read_trial(lines)
        self.aim = None
        self.rules = {}
        self.watch = None

    def say(self, row):
        words = row.split(" ")
        word = words[0]
        if word == "aim":
            self.aim = read_aim(self.trial, words)
            return DONE
        if word == "rule":
            return self.say_rule(row.split(" ", 2))
        if word in ("best", "least", "paper"):
            return self.say_by_aim(word, words)
        if word == "check":
            return self.say_check(row.split(" ", 1))
        if word in ("told", "wrong", "watch"):
            return self.say_of_rule(word, words)
        if word in ("look", "lot", "back"):
            return self.say_to_watch(word, words)
        raise NoRow("no such row")

    def say_rule(self, words):
        check_row(len(words) == 3 and is_name(words[1]))
        rule = read_rule(words[2].split(LINE_END))
        check_row(is_rule(faces_of(self.trial), ways_of(self.trial), rule))
        self.rules[words[1]] = rule
        return DONE

    def say_by_aim(self, word, words):
        check_row(self.aim is not None)
        if word == "best":
            prices = read_fractions(words[1:], ways_of(self.trial))
            check_row(are_prices(self.trial, prices))
            return LINE_END.join(shown_rule(best_rule(self.trial, self.aim, prices)))
        check_row(len(words) == 1)
        if word == "paper":
            return LINE_END.join(shown_paper(fewest(self.trial, self.aim)))
        least = least_cost(self.trial, self.aim)
        return "none" if least is None else shown_fraction(least)

    def say_check(self, words):
        check_row(len(words) == 2 and self.aim is not None)
        paper = read_paper(words[1].split(LINE_END))
        try:
            lets_paper(self.trial, self.aim, paper)
        except NoPaper as fault:
            return " ".join([fault.word] + at_words(fault.at))
        return DONE

    def say_of_rule(self, word, words):
        check_row(len(words) == (3 if word == "told" else 2) and words[1] in self.rules)
        rule = self.rules[words[1]]
        if word == "wrong":
            return " ".join(shown_fractions(wrong(self.trial, rule)))
        if word == "watch":
            self.watch = Watch(rule)
            return DONE
        way = way_called(self.trial, words[2])
        check_row(way is not None)
        told = said(self.trial, rule, way) + ended(self.trial, rule, way) + (average(self.trial, rule, way),)
        return " ".join(shown_fractions(told))

    def say_to_watch(self, word, words):
        check_row(len(words) == (1 if word == "back" else 2) and self.watch is not None)
        if word == "look":
            face = face_called(self.trial, words[1])
            check_row(face is not None)
            self.watch.look(face)
        elif word == "lot":
            shares = read_fractions(words[1:], 1)
            check_row(shares is not None)
            self.watch.lot(shares[0])
        else:
            self.watch.back()
        return self.watched()

    def watched(self):
        way = self.watch.way()
        due = NOTHING if self.watch.due() == "" else self.watch.due()
        name = NOTHING if way is None else self.trial[1][way][0]
        return " ".join([due] + shown_counts(self.watch.seen()) + [name])


def check_row(is_right):
    if not is_right:
        raise NoRow("no such row, or nothing stands there that it speaks of")


def read_aim(trial, words):
    allowed = MOST_WORDS_OF_FOUR_FACES if faces_of(trial) == 4 else MOST_WORDS
    check_row(len(words) > 1 and words[1] in allowed)
    most = int(words[1])
    ways = ways_of(trial)
    numbers = read_fractions(words[2:], 2 * ways + most)
    check_row(numbers is not None)
    aim = (most, numbers[:ways], numbers[ways:2 * ways], numbers[2 * ways:])
    check_row(is_aim(trial, aim))
    return aim


def at_words(at):
    if at is None:
        return [NOTHING]
    return shown_counts(at if isinstance(at, tuple) else (at,))
