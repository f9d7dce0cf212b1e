"""Promises 3 and 12, what they say of aims and prices, and the interface's row "Stage 2, aims"."""

import unittest

from earlystop.aims import are_prices, is_aim
from cases import Case, bent, replaced
from samples import COINS, DICE, SUITS, TRIALS
from things import ODD_THINGS

TENTHS = ((1, 10), (1, 20))
HALVES = ((1, 2), (1, 2))
AIM = (2, TENTHS, HALVES, ((1, 1), (3, 2)))
DICE_AIM = (3, ((0, 1), (1, 1), (1, 3)), ((0, 1), (1, 1), (0, 1)), ((0, 1), (999, 1), (1, 999)))
SUITS_AIM = (0, ((1, 9),) * 4, ((1, 4),) * 4, ())
FAULTY_SHARES = [(2, 4), (3, 2), (-1, 2), (1, 0), (0, 2), (1, -2), (True, 2), (1, True), [1, 2], 1, 0, "1/2", None, (1,)]


class Aims(Case):
    def is_aim(self, thing):
        return is_aim(COINS, thing)

    def test_aims(self):
        self.assertIs(is_aim(COINS, AIM), True)
        self.assertIs(is_aim(DICE, DICE_AIM), True)
        self.assertIs(is_aim(SUITS, SUITS_AIM), True)
        self.assertIs(is_aim(COINS, (0, ((0, 1), (0, 1)), ((1, 1), (0, 1)), ())), True)
        self.assertIs(is_aim(COINS, (1, ((1, 1), (1, 1)), ((0, 1), (1, 1)), ((0, 1),))), True)

    def test_of_other_trials(self):
        for thing, ways in [(AIM, 2), (DICE_AIM, 3), (SUITS_AIM, 4)]:
            for trial in TRIALS:
                self.assertIs(is_aim(trial, thing), len(trial[1]) == ways)

    def test_each_bent_in_one_place(self):
        for trial, aim in [(COINS, AIM), (DICE, DICE_AIM), (SUITS, SUITS_AIM)]:
            self.assertEach(lambda thing: is_aim(trial, thing), bent(aim), False)

    def test_most(self):
        self.assertEach(self.is_aim, [replaced(AIM, 0, most) for most in [
            -1, -2, 0, 1, 3, 4, 10 ** 59, True, False, None, "2", (2, 1), [2]]], False)

    def test_a_truth_as_most(self):
        self.assertIs(self.is_aim((1, TENTHS, HALVES, ((1, 1),))), True)
        self.assertIs(self.is_aim((True, TENTHS, HALVES, ((1, 1),))), False)
        self.assertIs(self.is_aim((0, TENTHS, HALVES, ())), True)
        self.assertIs(self.is_aim((False, TENTHS, HALVES, ())), False)
        self.assertIs(self.is_aim((-1, TENTHS, HALVES, ())), False)

    def test_a_cost_more_or_less_than_most(self):
        for most in range(8):
            for many in range(9):
                self.assertIs(self.is_aim((most, TENTHS, HALVES, ((1, 2),) * many)), most == many)

    def test_costs(self):
        for cost in [(0, 1), (1, 1), (1, 2), (999, 1), (999, 2), (1, 999)]:
            self.assertIs(self.is_aim((2, TENTHS, HALVES, ((1, 1), cost))), True)
            self.assertIs(self.is_aim((2, TENTHS, HALVES, (cost, (1, 1)))), True)
        for cost in [(-1, 1), (-1, 2), (-1, 999), (2, 2), (2, 4), (1, 0), (1, -1), (0, 2), (True, 1), (0, True), [1, 1], 1,
                     0, "1", None, (1,), (1, 1, 1)]:
            self.assertIs(self.is_aim((2, TENTHS, HALVES, ((1, 1), cost))), False)
            self.assertIs(self.is_aim((2, TENTHS, HALVES, (cost, (1, 1)))), False)

    def test_bounds(self):
        for bounds in [((0, 1), (0, 1)), ((1, 1), (1, 1)), ((1, 2), (1, 3)), ((1, 1), (0, 1)), ((998, 999), (1, 999))]:
            self.assertIs(self.is_aim(replaced(AIM, 1, bounds)), True)
        self.assertEach(self.is_aim, [replaced(AIM, 1, bounds) for bounds in [
            (), ((1, 2),), ((1, 2),) * 3, [(1, 2), (1, 2)], None, 1]], False)
        for share in FAULTY_SHARES:
            self.assertIs(self.is_aim(replaced(AIM, 1, (share, (1, 2)))), False)
            self.assertIs(self.is_aim(replaced(AIM, 1, ((1, 2), share))), False)

    def test_mix(self):
        for mix in [((0, 1), (1, 1)), ((1, 1), (0, 1)), ((1, 3), (2, 3)), ((998, 999), (1, 999))]:
            self.assertIs(self.is_aim(replaced(AIM, 2, mix)), True)
        self.assertEach(self.is_aim, [replaced(AIM, 2, mix) for mix in [
            (), ((1, 1),), ((1, 2), (1, 4), (1, 4)), ((1, 2), (1, 2), (0, 1)), ((0, 1), (0, 1)), ((1, 1), (1, 1)),
            ((1, 2), (1, 3)), ((1, 2), (2, 3)), ((3, 2), (-1, 2)), [(1, 2), (1, 2)], None, 1]], False)
        for share in FAULTY_SHARES:
            self.assertIs(self.is_aim(replaced(AIM, 2, (share, (1, 2)))), False)
            self.assertIs(self.is_aim(replaced(AIM, 2, ((1, 2), share))), False)

    def test_other_things(self):
        self.assertEach(self.is_aim, ODD_THINGS + [
            (), (2,), AIM[:3], AIM[1:], AIM + ((),), (AIM,), list(AIM), (None,) * 4, ([], [], [], []), ((),) * 4,
            (2, HALVES, TENTHS, ((1, 1), (3, 2)))], False)

    def test_a_most_somewhat_beyond_is_not_refused(self):
        self.assertIs(self.is_aim((40, TENTHS, HALVES, ((1, 1),) * 40)), True)
        self.assertIs(is_aim(SUITS, (6, ((1, 9),) * 4, ((1, 4),) * 4, ((10 ** 30, 1),) * 6)), True)


class Prices(Case):
    def test_prices(self):
        for trial in TRIALS:
            ways = len(trial[1])
            for price in [(0, 1), (1, 1), (1, 2), (999, 1), (1, 999), (10 ** 40, 3)]:
                self.assertIs(are_prices(trial, (price,) * ways), True)
                self.assertIs(are_prices(trial, (price,) * (ways - 1)), False)
                self.assertIs(are_prices(trial, (price,) * (ways + 1)), False)
                self.assertIs(are_prices(trial, [price] * ways), False)

    def test_each_bent_in_one_place(self):
        self.assertEach(lambda thing: are_prices(COINS, thing), bent(((3, 1), (0, 1))), False)
        self.assertEach(lambda thing: are_prices(DICE, thing), bent(((3, 1), (1, 2), (20, 7))), False)

    def test_below_nought_and_not_lowest(self):
        for price in [(-1, 1), (-1, 999), (2, 2), (4, 2), (0, 2), (1, 0), (1, -1), (True, 1), (False, 1), [1, 1], 1, None, "1"]:
            self.assertIs(are_prices(COINS, (price, (1, 1))), False)
            self.assertIs(are_prices(COINS, ((1, 1), price)), False)

    def test_other_things(self):
        right = [((0, 1), (1, 1))]
        self.assertEach(lambda thing: are_prices(COINS, thing), right, True)
        self.assertEach(lambda thing: are_prices(COINS, thing), [one for one in ODD_THINGS if one not in right], False)


if __name__ == "__main__":
    unittest.main()
