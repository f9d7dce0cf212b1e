"""Promise 30, the turned rules of 5, and the interface's row "Stage 8, turning"."""

import itertools
import unittest

from earlystop.amounts import amounts
from earlystop.errors import NoOrder
from earlystop.rules import is_rule
from earlystop.shares import average, ended, said, spent, wrong
from earlystop.trials import is_trial
from earlystop.turning import faces_turned, rule_faces_turned, rule_ways_turned, undone, ways_turned
from cases import Case
from rulesamples import FIRST, ON, SECOND, trials_and_rules
from samples import COINS, DICE, SUITS, TRIALS, sizes
from things import ODD_THINGS, nested

ONE_LOOK = (((0, 0), ON), ((0, 1), SECOND), ((1, 0), ((0, 1), (1, 4), (3, 4))))


def orders(many):
    return list(itertools.permutations(range(many)))


def turned(things, order):
    return tuple(things[place] for place in order)


def no_orders(many):
    """Things that are no orders of so many."""
    first = tuple(range(many))
    found = ODD_THINGS + [
        first[:-1], first + (many,), first[1:], tuple(range(1, many + 1)), list(first), "01", "0123"[:many], None, {}, (),
        dict(enumerate(first)), first[:-1] + (first[0],), (0,) * many, (1,) * many, first[:-1] + (many,), first[:-1] + (-1,),
        (-1,) + first[1:], (False,) + first[1:], (first[0], True) + first[2:], (False, True) + first[2:],
        tuple(str(one) for one in first), (None,) * many, (first,), ((0,),) + first[1:], ([0],) + first[1:], first * 2,
        (10 ** 59,) + first[1:], nested(40), {0: 0, 1: 1}, tuple(reversed(range(1, many + 1))),
    ]
    return [thing for thing in found if not (type(thing) is tuple and thing in orders(many)
                                             and all(type(one) is int for one in thing))]


class Trials(Case):
    def test_by_hand(self):
        self.assertTold(ways_turned(COINS, (1, 0)),
                        (("tail", "head"), (("loaded", ((1, 4), (3, 4))), ("fair", ((1, 2), (1, 2))))))
        self.assertTold(faces_turned(COINS, (1, 0)),
                        (("head", "tail"), (("fair", ((1, 2), (1, 2))), ("loaded", ((3, 4), (1, 4))))))
        self.assertTold(ways_turned(DICE, (1, 2, 0)), (DICE[0], (DICE[1][1], DICE[1][2], DICE[1][0])))
        self.assertTold(faces_turned(DICE, (2, 0, 1))[0], ("high", "low", "mid"))
        self.assertTold(faces_turned(DICE, (2, 0, 1))[1][1], ("down", ((1, 6), (1, 2), (1, 3))))

    def test_each_order(self):
        for trial in TRIALS:
            faces, ways = sizes(trial)
            for order in orders(ways):
                told = ways_turned(trial, order)
                self.assertTold(told, (trial[0], turned(trial[1], order)))
                self.assertIs(is_trial(told), True)
                self.assertTold(ways_turned(told, undone(order)), trial)
            for order in orders(faces):
                told = faces_turned(trial, order)
                self.assertTold(told, (turned(trial[0], order), tuple((n, turned(s, order)) for n, s in trial[1])))
                self.assertIs(is_trial(told), True)
                self.assertTold(faces_turned(told, undone(order)), trial)


class Rules(Case):
    def test_by_hand(self):
        self.assertTold(rule_ways_turned(ONE_LOOK, (1, 0)),
                        (((0, 0), ON), ((0, 1), FIRST), ((1, 0), ((0, 1), (3, 4), (1, 4)))))
        self.assertTold(rule_faces_turned(ONE_LOOK, (1, 0)),
                        (((0, 0), ON), ((0, 1), ((0, 1), (1, 4), (3, 4))), ((1, 0), SECOND)))

    def test_turned_and_turned_back(self):
        for trial, rule in trials_and_rules(50, 30):
            faces, ways = sizes(trial)
            for order in orders(ways):
                told = rule_ways_turned(rule, order)
                self.assertIs(is_rule(faces, ways, told), True)
                self.assertTold(rule_ways_turned(told, undone(order)), rule)
                for (counts, says), (same, before) in zip(told, rule):
                    self.assertTold((counts, says), (same, before[:1] + turned(before[1:], order)))
            for order in orders(faces):
                told = rule_faces_turned(rule, order)
                self.assertIs(is_rule(faces, ways, told), True)
                self.assertTold(rule_faces_turned(told, undone(order)), rule)
                self.assertEqual(dict(told), {turned(counts, order): says for counts, says in rule})

    def test_what_is_told_of_turned_ways(self):
        for trial, rule in trials_and_rules(51, 20):
            ways = len(trial[1])
            costs = ((1, 2), (3, 1), (0, 1), (7, 5))
            for order in orders(ways):
                new_trial, new_rule = ways_turned(trial, order), rule_ways_turned(rule, order)
                self.assertTold(wrong(new_trial, new_rule), turned(wrong(trial, rule), order))
                self.assertTold(amounts(new_rule), amounts(rule))
                for way in range(ways):
                    old = order[way]
                    self.assertTold(said(new_trial, new_rule, way), turned(said(trial, rule, old), order))
                    self.assertTold(ended(new_trial, new_rule, way), ended(trial, rule, old))
                    self.assertTold(average(new_trial, new_rule, way), average(trial, rule, old))
                    self.assertTold(spent(new_trial, new_rule, way, costs), spent(trial, rule, old, costs))

    def test_what_is_told_of_turned_faces(self):
        for trial, rule in trials_and_rules(52, 20):
            costs = ((1, 2), (3, 1), (0, 1), (7, 5))
            for order in orders(len(trial[0])):
                new_trial, new_rule = faces_turned(trial, order), rule_faces_turned(rule, order)
                self.assertTold(wrong(new_trial, new_rule), wrong(trial, rule))
                self.assertEqual(dict(amounts(new_rule)), {turned(c, order): one for c, one in amounts(rule)})
                for way in range(len(trial[1])):
                    self.assertTold(said(new_trial, new_rule, way), said(trial, rule, way))
                    self.assertTold(ended(new_trial, new_rule, way), ended(trial, rule, way))
                    self.assertTold(average(new_trial, new_rule, way), average(trial, rule, way))
                    self.assertTold(spent(new_trial, new_rule, way, costs), spent(trial, rule, way, costs))


class Orders(Case):
    def test_undone(self):
        for many in range(1, 6):
            for order in orders(many):
                told = undone(order)
                self.assertTold(turned(turned(tuple("abcde"), order), told), tuple("abcde"[:many]))
                self.assertTold(undone(told), order)
        self.assertTold(undone((2, 0, 1)), (1, 2, 0))
        self.assertTold(undone((0,)), (0,))
        self.assertTold(undone(tuple(reversed(range(200)))), tuple(reversed(range(200))))

    def refused(self, call, *things):
        with self.subTest(repr(things)[-200:]):
            self.assertRefused(NoOrder, {}, call, *things)

    def test_no_orders_of_trials(self):
        for trial in [COINS, DICE, SUITS]:
            for thing in no_orders(len(trial[1])):
                self.refused(ways_turned, trial, thing)
            for thing in no_orders(len(trial[0])):
                self.refused(faces_turned, trial, thing)

    def test_no_orders_of_rules(self):
        for trial, rule in trials_and_rules(53, 6):
            faces, ways = sizes(trial)
            for thing in no_orders(ways):
                self.refused(rule_ways_turned, rule, thing)
            for thing in no_orders(faces):
                self.refused(rule_faces_turned, rule, thing)

    def test_orders_of_another_number(self):
        for trial, rule in trials_and_rules(54, 30):
            faces, ways = sizes(trial)
            for many in range(6):
                order = tuple(range(many))
                for call, thing, right in [(ways_turned, trial, ways), (faces_turned, trial, faces),
                                           (rule_ways_turned, rule, ways), (rule_faces_turned, rule, faces)]:
                    if many == right:
                        self.assertTold(call(thing, order), thing)
                    else:
                        self.refused(call, thing, order)

    def test_no_orders_at_all(self):
        for thing in [(), (1,), (-1,), (0, 0), (1, 1), (1, 2), (0, 2), (0, 1, 1), (1, 2, 3), (True, 0), (False,), (0, True),
                      [0], [1, 0], [], {}, {0: 0}, "0", "01", "", None, 0, 1, True, (None,), ("0",), ((0,),), (0, [1]),
                      (0, 1, 3), (0, -1), (10 ** 59, 0), nested(40)]:
            self.refused(undone, thing)
        for thing in ODD_THINGS:
            self.refused(undone, thing)


if __name__ == "__main__":
    unittest.main()
