"""Promises 15 and 16, what 3 says of rows and counts, and the interface's row "Stage 3, looks"."""

import itertools
import math
import random
import unittest
from fractions import Fraction

from earlystop.kinds import are_parts
from earlystop.looks import (
    all_counts, counts_of, is_counts, is_row, rows_to, share_of, ways_behind, weight,
)
from brute import row_share, seen_counts, value
from cases import Case, bent
from samples import COINS, DICE, SUITS, SURE, TRIALS, TWINS, pair, random_parts, sizes
from things import ODD_THINGS


def rows_of(faces, most):
    for looks in range(most + 1):
        yield from itertools.product(range(faces), repeat=looks)


class Kinds(Case):
    def test_rows(self):
        self.assertEach(lambda thing: is_row(COINS, thing), [(), (0,), (1,), (0, 1, 1, 0), (1,) * 60, (0,) * 200], True)
        self.assertEach(lambda thing: is_row(SUITS, thing), [(), (3,), (0, 1, 2, 3), (3, 3, 0)], True)

    def test_a_number_beyond(self):
        for trial in TRIALS:
            faces = len(trial[0])
            for number in range(-3, 7):
                self.assertIs(is_row(trial, (number,)), 0 <= number < faces)
                self.assertIs(is_row(trial, (0, 1, number)), 0 <= number < faces)
                self.assertIs(is_row(trial, (number, 1)), 0 <= number < faces)

    def test_rows_of_another_kind(self):
        self.assertEach(lambda thing: is_row(COINS, thing), [
            [], [0], [0, 1], {}, {0: 1}, (True,), (False,), (0, True), (False, 1), (None,), ("0",), "01", "", ((0,),),
            (0, (1,)), (0, [1]), 0, 1, None, True, (10 ** 59,), ((0, 1), (1, 1))], False)
        is_odd = [thing for thing in ODD_THINGS if thing not in [(), (1,), (0, 1, 1)]]
        self.assertEach(lambda thing: is_row(COINS, thing), is_odd, False)

    def test_counts(self):
        self.assertEach(lambda thing: is_counts(2, thing), [(0, 0), (0, 1), (5, 0), (60, 60), (10 ** 59, 1)], True)
        self.assertEach(lambda thing: is_counts(3, thing), [(0, 0, 0), (0, 1, 7)], True)
        self.assertEach(lambda thing: is_counts(4, thing), [(0, 0, 0, 0), (9, 8, 7, 6)], True)

    def test_counts_of_another_length(self):
        for faces in range(2, 5):
            for length in range(7):
                self.assertIs(is_counts(faces, (1,) * length), length == faces)

    def test_counts_of_another_kind(self):
        self.assertEach(lambda thing: is_counts(2, thing), [
            [0, 0], {0: 0, 1: 1}, (True, 0), (0, False), (True, True), (-1, 0), (0, -1), (1, -1), (None, 0), ("0", "1"),
            "00", ((0, 0),), ((0,), (0,)), 0, None, (), (0,), (0, 0, 0)], False)
        self.assertEach(lambda thing: is_counts(3, thing), bent((0, 1, 2)), False)
        is_odd = [thing for thing in ODD_THINGS if thing not in [(0, 1, 1), (1, 2, 3)]]
        self.assertEach(lambda thing: is_counts(3, thing), is_odd, False)


class Counted(Case):
    def test_counts_of_each_row(self):
        for trial in TRIALS:
            faces = len(trial[0])
            for row in rows_of(faces, 4):
                self.assertTold(counts_of(trial, row), seen_counts(row, faces))

    def test_counts_of_long_rows(self):
        self.assertTold(counts_of(COINS, ()), (0, 0))
        self.assertTold(counts_of(SUITS, ()), (0, 0, 0, 0))
        self.assertTold(counts_of(COINS, (0, 1, 1) * 20), (20, 40))
        self.assertTold(counts_of(SUITS, (3,) * 60), (0, 0, 0, 60))

    def test_share_and_weight_of_each_row(self):
        for trial in TRIALS:
            for way in range(len(trial[1])):
                for row in rows_of(len(trial[0]), 4):
                    asked = pair(row_share(trial, way, row))
                    self.assertTold(share_of(trial, way, row), asked)
                    self.assertTold(weight(trial, way, counts_of(trial, row)), asked)

    def test_without_looks(self):
        for trial in TRIALS:
            for way in range(len(trial[1])):
                self.assertTold(share_of(trial, way, ()), (1, 1))
                self.assertTold(weight(trial, way, (0,) * len(trial[0])), (1, 1))

    def test_by_hand(self):
        self.assertTold(share_of(COINS, 1, (1, 1, 0)), (9, 64))
        self.assertTold(weight(COINS, 1, (1, 2)), (9, 64))
        self.assertTold(weight(DICE, 1, (1, 0, 2)), (1, 72))

    def test_noughts_and_ones(self):
        self.assertTold(share_of(SURE, 0, (0,) * 60), (1, 1))
        self.assertTold(share_of(SURE, 0, (0,) * 59 + (1,)), (0, 1))
        self.assertTold(weight(SURE, 0, (60, 0)), (1, 1))
        self.assertTold(weight(SURE, 0, (59, 1)), (0, 1))
        self.assertTold(weight(SURE, 1, (0, 7)), (1, 1))
        self.assertTold(weight(SUITS, 2, (0, 0, 0, 9)), (1, 1))
        self.assertTold(weight(SUITS, 2, (0, 0, 1, 9)), (0, 1))

    def test_long_rows(self):
        row = (0, 1, 2, 1, 1, 2) * 10
        for way in range(3):
            asked = pair(row_share(DICE, way, row))
            self.assertTold(share_of(DICE, way, row), asked)
            self.assertTold(weight(DICE, way, (10, 30, 20)), asked)
        self.assertTold(weight(SURE, 2, (30, 30)), (998 ** 30, 999 ** 60))

    def test_weights_of_all_rows_come_to_one(self):
        for trial in TRIALS:
            for way in range(len(trial[1])):
                for looks in range(4):
                    found = [counts for counts in all_counts(len(trial[0]), looks) if sum(counts) == looks]
                    self.assertEqual(sum(rows_to(counts) * value(weight(trial, way, counts)) for counts in found), 1)


class RowsTo(Case):
    def test_against_all_rows(self):
        for faces in range(2, 5):
            found = {}
            for row in rows_of(faces, 5):
                counts = seen_counts(row, faces)
                found[counts] = found.get(counts, 0) + 1
            for counts, many in found.items():
                self.assertTold(rows_to(counts), many)

    def test_noughts_and_long_ones(self):
        self.assertTold(rows_to((0, 0)), 1)
        self.assertTold(rows_to((0, 0, 0, 0)), 1)
        self.assertTold(rows_to((60, 0)), 1)
        self.assertTold(rows_to((0, 60)), 1)
        self.assertTold(rows_to((30, 30)), math.comb(60, 30))
        self.assertTold(rows_to((15, 15, 15, 15)), math.factorial(60) // math.factorial(15) ** 4)


class AllCounts(Case):
    def test_by_hand(self):
        self.assertTold(all_counts(2, 0), [(0, 0)])
        self.assertTold(all_counts(2, 2), [(0, 0), (0, 1), (1, 0), (0, 2), (1, 1), (2, 0)])
        self.assertTold(all_counts(3, 1), [(0, 0, 0), (0, 0, 1), (0, 1, 0), (1, 0, 0)])

    def test_against_all_tuples(self):
        for faces in range(2, 5):
            for most in range(9 if faces < 4 else 6):
                found = [counts for counts in itertools.product(range(most + 1), repeat=faces) if sum(counts) <= most]
                self.assertTold(all_counts(faces, most), sorted(found, key=lambda counts: (sum(counts), counts)))

    def test_how_many(self):
        self.assertEqual(len(all_counts(4, 8)), math.comb(12, 4))
        self.assertEqual(len(all_counts(2, 60)), math.comb(62, 2))

    def test_new_each_time(self):
        told = all_counts(2, 1)
        told.append((9, 9))
        told[0] = None
        self.assertTold(all_counts(2, 1), [(0, 0), (0, 1), (1, 0)])


class WaysBehind(Case):
    def test_by_hand(self):
        self.assertTold(ways_behind(COINS, ((1, 2), (1, 2)), (0, 0)), ((1, 2), (1, 2)))
        self.assertTold(ways_behind(COINS, ((1, 2), (1, 2)), (0, 1)), ((2, 5), (3, 5)))
        self.assertTold(ways_behind(COINS, ((1, 2), (1, 2)), (1, 0)), ((2, 3), (1, 3)))
        self.assertTold(ways_behind(COINS, ((2, 3), (1, 3)), (1, 2)), ((16, 25), (9, 25)))

    def test_noughts_in_the_mix(self):
        self.assertTold(ways_behind(COINS, ((1, 1), (0, 1)), (3, 4)), ((1, 1), (0, 1)))
        self.assertTold(ways_behind(DICE, ((0, 1), (1, 2), (1, 2)), (0, 0, 0)), ((0, 1), (1, 2), (1, 2)))
        self.assertTold(ways_behind(DICE, ((0, 1), (0, 1), (1, 1)), (5, 0, 1)), ((0, 1), (0, 1), (1, 1)))

    def test_noughts_among_the_shares(self):
        thirds = ((1, 3), (1, 3), (1, 3))
        self.assertTold(ways_behind(SURE, thirds, (0, 0)), thirds)
        self.assertTold(ways_behind(SURE, thirds, (1, 0)), ((999, 1000), (0, 1), (1, 1000)))
        self.assertTold(ways_behind(SURE, thirds, (1, 1)), ((0, 1), (0, 1), (1, 1)))
        self.assertTold(ways_behind(SUITS, ((1, 4),) * 4, (1, 0, 0, 1)), ((1, 1), (0, 1), (0, 1), (0, 1)))

    def test_none_where_the_sum_is_nought(self):
        self.assertIsNone(ways_behind(SURE, ((1, 2), (1, 2), (0, 1)), (1, 1)))
        self.assertIsNone(ways_behind(SURE, ((1, 1), (0, 1), (0, 1)), (0, 1)))
        self.assertIsNone(ways_behind(TWINS, ((1, 2), (1, 2)), (4, 4, 1)))
        self.assertIsNone(ways_behind(SUITS, ((0, 1), (0, 1), (1, 1), (0, 1)), (1, 0, 0, 0)))

    def test_against_all(self):
        rng = random.Random(16)
        for trial in TRIALS:
            faces, ways = sizes(trial)
            for counts in all_counts(faces, 3):
                mix = random_parts(rng, ways)
                parts = [value(mix[way]) * value(weight(trial, way, counts)) for way in range(ways)]
                told = ways_behind(trial, mix, counts)
                if sum(parts) == 0:
                    self.assertIsNone(told)
                else:
                    self.assertTold(told, tuple(pair(Fraction(part) / sum(parts)) for part in parts))
                    self.assertIs(are_parts(told, ways), True)

    def test_long_counts(self):
        told = ways_behind(COINS, ((1, 999), (998, 999)), (20, 40))
        self.assertIs(are_parts(told, 2), True)
        self.assertTold(told[1], pair(998 * Fraction(3 ** 40, 4 ** 60) / (998 * Fraction(3 ** 40, 4 ** 60)
                                                                         + Fraction(1, 2 ** 60))))


if __name__ == "__main__":
    unittest.main()
