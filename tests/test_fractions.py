"""Promises 2, 3, 4, 10 and 11, and the interface's row "Stage 1, fractions"."""

import unittest
from fractions import Fraction
from math import gcd

from earlystop.errors import EarlyError, NoFraction
from earlystop.fractions import (
    fraction, is_fraction, is_less, is_share, least_place, less, over, plus, read_fraction, shown_fraction, times,
    total,
)
from cases import Case
from samples import pair
from things import ODD_THINGS

SIXTY = 10 ** 60 - 1
GREAT = 10 ** 4000 - 1


def some_fractions():
    found = []
    for d in range(1, 8):
        for n in range(-9, 10):
            if gcd(n, d) == 1:
                found.append((n, d))
    return found + [(SIXTY, SIXTY - 1), (-SIXTY, 2 ** 190), (1, SIXTY), (7, 10 ** 59), (-(3 ** 120), 2 ** 150)]


class Kinds(Case):
    def test_fractions(self):
        for thing in some_fractions() + [(0, 1), (1, 1), (-1, 1), (5, 1), (SIXTY, 1), (-SIXTY, 1)]:
            with self.subTest(str(thing)):
                self.assertIs(is_fraction(thing), True)

    def test_what_is_no_fraction(self):
        wrong = [
            (True, 1), (False, 1), (1, True), (0, True), (True, True), (True, 2), [0, 1], [1, 2],
            (1, 0), (0, 0), (-1, 0), (1, -1), (1, -2), (-1, -2), (0, -1), (0, 2), (0, 3), (0, SIXTY),
            (2, 2), (2, 4), (-2, 4), (3, 9), (6, 4), (-6, 3), (4, 2), (SIXTY, SIXTY), (SIXTY, 3), (3, SIXTY),
            (1, 2, 1), (1,), (), (1, 2, 3, 4), ((1, 2), (1, 2)), ("1", "2"),
        ]
        for thing in wrong + ODD_THINGS:
            with self.subTest(str(thing)[:80]):
                self.assertIs(is_fraction(thing), False)
                self.assertIs(is_share(thing), False)

    def test_each_small_pair(self):
        for n in range(-12, 13):
            for d in range(-6, 13):
                with self.subTest(str((n, d))):
                    right = d >= 1 and gcd(n, d) == 1
                    self.assertIs(is_fraction((n, d)), right)
                    self.assertIs(is_share((n, d)), right and 0 <= n <= d)

    def test_shares(self):
        for thing in [(0, 1), (1, 1), (1, 2), (2, 3), (SIXTY - 1, SIXTY), (1, SIXTY)]:
            self.assertIs(is_share(thing), True)
        for thing in [(-1, 1), (-1, 2), (3, 2), (2, 1), (SIXTY, SIXTY - 1), (-1, SIXTY), (0, 2), (2, 2), (False, 1),
                      (True, 1), [0, 1], [1, 1]]:
            self.assertIs(is_share(thing), False)

    def test_things_stay_as_they_were(self):
        thing = [[1, 2], {"a": [1]}]
        self.assertIs(is_fraction(thing), False)
        self.assertIs(is_share(thing), False)
        self.assertEqual(thing, [[1, 2], {"a": [1]}])


class Made(Case):
    def test_each_small_pair(self):
        for n in range(-12, 13):
            for d in range(-12, 13):
                if d != 0:
                    self.assertTold(fraction(n, d), pair(Fraction(n, d)))

    def test_signs_and_nought(self):
        self.assertTold(fraction(6, -4), (-3, 2))
        self.assertTold(fraction(-6, -4), (3, 2))
        self.assertTold(fraction(0, 7), (0, 1))
        self.assertTold(fraction(0, -7), (0, 1))
        self.assertTold(fraction(-7, 7), (-1, 1))

    def test_great_numbers(self):
        self.assertTold(fraction(SIXTY * 6, -SIXTY * 4), (-3, 2))
        self.assertTold(fraction(GREAT, GREAT * 5), (1, 5))

    def test_divided_by_nought(self):
        for n in [0, 1, -1, SIXTY]:
            with self.assertRaises(NoFraction):
                fraction(n, 0)


class Reckoned(Case):
    def test_two_by_two(self):
        for one in some_fractions():
            for other in some_fractions():
                left, right = Fraction(*one), Fraction(*other)
                self.assertTold(plus(one, other), pair(left + right))
                self.assertTold(less(one, other), pair(left - right))
                self.assertTold(times(one, other), pair(left * right))
                self.assertTold(is_less(one, other), left < right)
                if other != (0, 1):
                    self.assertTold(over(one, other), pair(left / right))

    def test_common_divisors_go_out(self):
        self.assertTold(plus((1, 6), (1, 10)), (4, 15))
        self.assertTold(plus((1, 6), (1, 3)), (1, 2))
        self.assertTold(plus((1, 4), (1, 4)), (1, 2))
        self.assertTold(times((4, 9), (3, 8)), (1, 6))
        self.assertTold(over((4, 9), (8, 3)), (1, 6))

    def test_what_comes_to_nought(self):
        for one in some_fractions():
            self.assertTold(plus(one, (-one[0], one[1])), (0, 1))
            self.assertTold(less(one, one), (0, 1))
            self.assertTold(times(one, (0, 1)), (0, 1))
            self.assertTold(times((0, 1), one), (0, 1))
        self.assertTold(over((0, 1), (-3, 7)), (0, 1))
        self.assertTold(plus((0, 1), (0, 1)), (0, 1))

    def test_over_below_nought(self):
        self.assertTold(over((1, 2), (-3, 4)), (-2, 3))
        self.assertTold(over((-1, 2), (-3, 4)), (2, 3))
        self.assertTold(over((1, 2), (-1, 1)), (-1, 2))

    def test_over_nought(self):
        for one in some_fractions():
            with self.assertRaises(NoFraction):
                over(one, (0, 1))

    def test_is_less_of_alike_ones(self):
        for one in some_fractions():
            self.assertIs(is_less(one, one), False)
            self.assertIs(is_less(one, (one[0] + one[1], one[1])), True)
            self.assertIs(is_less((one[0] + one[1], one[1]), one), False)

    def test_is_less_below_nought(self):
        self.assertIs(is_less((-1, 2), (-1, 3)), True)
        self.assertIs(is_less((-1, 3), (-1, 2)), False)
        self.assertIs(is_less((-1, 2), (1, 3)), True)
        self.assertIs(is_less((-1, 2), (0, 1)), True)
        self.assertIs(is_less((0, 1), (-1, 2)), False)

    def test_what_was_told_is_handed_in_again(self):
        grown = (1, 3)
        for d in range(1, 12):
            grown = plus(times(grown, grown), (1, d))
            self.assertIs(is_fraction(grown), True)
        self.assertGreater(grown[1], 10 ** 900)
        self.assertTold(less(grown, grown), (0, 1))
        self.assertTold(over(grown, grown), (1, 1))
        self.assertTold(read_fraction(shown_fraction(grown)), grown)

    def test_nothing_hangs_on_what_was_asked_before(self):
        ahead = (plus((1, 2), (1, 3)), times((1, 2), (2, 3)), total([(1, 2)]), fraction(2, 4))
        for ask in [lambda: fraction(1, 0), lambda: over((1, 2), (0, 1)), lambda: read_fraction("1/0")]:
            with self.assertRaises(EarlyError):
                ask()
        self.assertEqual((plus((1, 2), (1, 3)), times((1, 2), (2, 3)), total([(1, 2)]), fraction(2, 4)), ahead)
        self.assertEqual(ahead, ((5, 6), (1, 3), (1, 2), (1, 2)))


class Lists(Case):
    def test_total(self):
        self.assertTold(total([(1, 2)]), (1, 2))
        self.assertTold(total([(1, 2), (1, 3), (1, 6)]), (1, 1))
        self.assertTold(total([(1, 2), (-1, 3), (-1, 6)]), (0, 1))
        self.assertTold(total(some_fractions()), pair(sum([Fraction(*one) for one in some_fractions()])))

    def test_total_of_none(self):
        self.assertTold(total([]), (0, 1))

    def test_total_of_many_great_ones(self):
        some = [fraction(k + 1, SIXTY - 2 * k) for k in range(220)]
        self.assertTold(total(some), pair(sum([Fraction(*one) for one in some])))

    def test_least_place(self):
        self.assertTold(least_place([(1, 2)]), 0)
        self.assertTold(least_place([(1, 2), (1, 3)]), 1)
        self.assertTold(least_place([(1, 3), (1, 2)]), 0)
        self.assertTold(least_place([(1, 2), (-1, 3), (0, 1), (-1, 2), (5, 1)]), 3)
        self.assertTold(least_place([(1, 1), (1, 2), (1, 3)]), 2)

    def test_least_place_of_alike_ones(self):
        self.assertTold(least_place([(1, 2), (1, 2), (1, 2)]), 0)
        self.assertTold(least_place([(1, 1), (-1, 2), (0, 1), (-1, 2), (-1, 2)]), 1)
        self.assertTold(least_place([(0, 1), (0, 1)]), 0)

    def test_least_place_by_sorting(self):
        some = some_fractions()
        for start in range(len(some)):
            turned = some[start:] + some[:start]
            values = [Fraction(*one) for one in turned]
            self.assertTold(least_place(turned), values.index(min(values)))

    def test_lists_stay_as_they_were(self):
        some = [(1, 2), (-1, 3), (1, 2), (0, 1)]
        kept = list(some)
        self.assertEqual(total(some), (2, 3))
        self.assertEqual(least_place(some), 1)
        self.assertEqual(some, kept)

    def test_what_is_done_to_the_list_later_changes_nothing(self):
        some = [(1, 2), (1, 3)]
        told = total(some)
        some.append((1, 6))
        self.assertEqual(told, (5, 6))
        self.assertEqual(total(some), (1, 1))
        void = []
        told = total(void)
        void.append((1, 2))
        self.assertEqual(told, (0, 1))
        self.assertEqual(total([]), (0, 1))


class Texts(Case):
    def test_shown(self):
        shown = {
            (0, 1): "0", (1, 1): "1", (-1, 1): "-1", (1, 2): "1/2", (-1, 2): "-1/2", (10, 1): "10", (-10, 7): "-10/7",
            (7, 10): "7/10", (305, 2): "305/2", (100, 999): "100/999",
        }
        for one, text in shown.items():
            self.assertTold(shown_fraction(one), text)
            self.assertTold(read_fraction(text), one)

    def test_each_is_read_back(self):
        for one in some_fractions():
            self.assertTold(read_fraction(shown_fraction(one)), one)

    def test_lengths_round_the_pieces(self):
        for figures in [1, 63, 64, 65, 127, 128, 129, 191, 192, 193]:
            for number in [10 ** (figures - 1), 10 ** figures - 1, 10 ** figures // 3]:
                self.assertTold(shown_fraction((number, 1)), str(number))
                self.assertTold(shown_fraction((-number, 1)), "-" + str(number))
                self.assertTold(read_fraction(str(number)), (number, 1))

    def test_four_thousand_figures(self):
        least = 10 ** 3999
        for one in [(GREAT, 1), (-GREAT, 1), (least, 1), (-least, 1), (1, GREAT), (-1, least), (GREAT, GREAT - 1),
                    (-GREAT, least), (least + 1, least)]:
            text = shown_fraction(one)
            asked = str(one[0]) if one[1] == 1 else str(one[0]) + "/" + str(one[1])
            self.assertTold(text, asked)
            self.assertTold(read_fraction(text), one)

    def test_somewhat_more_figures_are_written(self):
        self.assertTold(shown_fraction((10 ** 4000, 1)), "1" + "0" * 4000)
        self.assertTold(shown_fraction((10 ** 4400 - 1, 1)), "9" * 4400)
        self.assertTold(shown_fraction((-(10 ** 5000), 10 ** 5000 - 1)), "-1" + "0" * 5000 + "/" + "9" * 5000)

    def test_more_figures_are_not_read(self):
        for text in ["1" * 4001, "-" + "1" * 4001, "1" + "0" * 4000, "1/" + "1" * 4001, "1" * 4001 + "/2",
                     "9" * 4400, "1/" + "9" * 4400, "1" * 100000]:
            with self.assertRaises(NoFraction):
                read_fraction(text)

    def test_refused(self):
        wrong = [
            "", "/", "-", "-/", "/-", "//", "1/", "/1", "/2", "-/2", "1//2", "1/2/", "/1/2", "1/2/3", "1/2/1",
            "00", "01", "-01", "007", "01/2", "1/02", "-01/2", "00/1", "0/01", "000",
            "-0", "-0/1", "-0/5", "-00", "0/1", "0/2", "0/0", "-0/0",
            "+1", "+0", "+1/2", "1/+2", "+", "+-1", "-+1", "--1", "--1/2",
            "1/1", "-1/1", "5/1", "10/1", "1/0", "-1/0", "5/0", "1/00",
            "2/2", "2/4", "-2/4", "6/4", "10/5", "100/10", "9/3", "-7/7", str(SIXTY) + "/3", "3/" + str(SIXTY),
            "1/-2", "-1/-2", "1/-1", "0/-1", "1/--2", "1-/2", "1-", "1-2",
            " ", " 1", "1 ", "1 2", " 1/2", "1/2 ", "1 /2", "1/ 2", "- 1", "-1 /2", "1\n", "\n1", "1/2\n", "1\t",
            "a", "x/2", "1/x", "1.5", "0.5", ".5", "1.", "1e2", "1_0", "1/1_0", "0x1", "1,5", "1:2", "None", "True",
            "(1, 2)", "1/2,", "1/2;", "1\\2", "\u00b2", "\u0661", "1/\u0663", "\uff11",
        ]
        for text in wrong:
            with self.subTest(text[:80]):
                with self.assertRaises(NoFraction) as taken:
                    read_fraction(text)
                self.assertIs(type(taken.exception), NoFraction)

    def test_each_short_text_is_read_or_refused(self):
        right = {}
        for n in range(-99, 1000):
            right[str(n)] = (n, 1)
        for n in range(-9, 10):
            for d in range(2, 10):
                if gcd(n, d) == 1:
                    right[str(n) + "/" + str(d)] = (n, d)
        signs = "0123/- +"
        texts = [""]
        for length in range(4):
            texts = texts + [text + sign for text in texts if len(text) == length for sign in signs]
        for text in texts:
            if text in right:
                self.assertTold(read_fraction(text), right[text])
            elif len(text) < 4:
                with self.assertRaises(NoFraction):
                    read_fraction(text)


if __name__ == "__main__":
    unittest.main()
