"""Promises 3 and 12, what they say of trials, and the interface's row "Stage 2, trials"."""

import copy
import unittest

from earlystop.trials import face_called, is_trial, way_called
from cases import Case, bent, replaced
from samples import COINS, DICE, SUITS, SURE, TRIALS, TWINS
from things import ODD_THINGS

HALVES = ((1, 2), (1, 2))
THIRDS = ((1, 3), (1, 3), (1, 3))


def with_faces(faces):
    shares = tuple((1, 1) if k == 0 else (0, 1) for k in range(len(faces)))
    return (faces, (("p", shares), ("q", shares)))


def with_ways(names):
    return (("x", "y"), tuple((name, HALVES) for name in names))


def with_shares(shares):
    return (("x", "y"), (("p", shares), ("q", HALVES)))


class Trials(Case):
    def test_trials(self):
        self.assertEach(is_trial, TRIALS, True)

    def test_numbers_of_faces_and_ways(self):
        for many in range(7):
            names = tuple("abcdefg"[:many])
            self.assertIs(is_trial(with_faces(names)), 2 <= many <= 4)
            self.assertIs(is_trial(with_ways(names)), 2 <= many <= 4)

    def test_each_bent_in_one_place(self):
        for trial in TRIALS:
            self.assertEach(is_trial, bent(trial), False)

    def test_a_name_twice(self):
        self.assertEach(is_trial, [with_faces(("a", "a")), with_faces(("a", "b", "a")), with_faces(("d", "a", "b", "b")),
                                   with_ways(("a", "a")), with_ways(("a", "b", "b")), with_ways(("d", "a", "b", "d"))],
                        False)

    def test_a_face_and_a_way_called_alike(self):
        self.assertEach(is_trial, [SUITS, (("p", "q"), (("p", HALVES), ("q", HALVES))),
                                   (("p", "q"), (("q", HALVES), ("x", HALVES)))], True)

    def test_ways_of_the_same_shares(self):
        self.assertIs(is_trial(TWINS), True)

    def test_names_that_are_none(self):
        for name in ["", "way", "faces", "on", "say", "rule", "none", "price", "worth", "abcdefghi", "A", "a1", "a b"]:
            with self.subTest(name):
                self.assertIs(is_trial(with_faces((name, "b"))), False)
                self.assertIs(is_trial(with_faces(("b", "c", name))), False)
                self.assertIs(is_trial(with_ways((name, "b"))), False)
                self.assertIs(is_trial(with_ways(("b", "c", "d", name))), False)

    def test_shares_that_do_not_come_to_one(self):
        wrong = [((1, 2), (1, 3)), ((1, 2), (2, 3)), ((0, 1), (0, 1)), ((1, 1), (1, 1)), ((1, 1), (1, 999)),
                 ((998, 999), (1, 998))]
        self.assertEach(is_trial, [with_shares(shares) for shares in wrong], False)
        self.assertEach(is_trial, [replaced(COINS, 1, (COINS[1][0], ("b", shares))) for shares in wrong], False)

    def test_fractions_that_are_no_shares(self):
        self.assertEach(is_trial, [with_shares(shares) for shares in [
            ((2, 4), (1, 2)), ((1, 2), (2, 4)), ((2, 2), (0, 1)), ((1, 1), (0, 2)), ((-1, 2), (3, 2)), ((3, 2), (-1, 2)),
            ((2, 1), (-1, 1)), ((1, -2), (3, 2)), ((-1, -2), (1, 2)), ((1, 0), (0, 1)), (1, 0), ("1/2", "1/2")]], False)

    def test_shares_of_another_length(self):
        self.assertEach(is_trial, [with_shares(shares) for shares in [
            (), ((1, 1),), THIRDS, ((1, 2), (1, 2), (0, 1)), ((1, 2), (1, 4), (1, 4))]], False)
        self.assertIs(is_trial((("a", "b", "c"), (("p", THIRDS), ("q", HALVES)))), False)

    def test_noughts_and_ones_among_the_shares(self):
        self.assertEach(is_trial, [with_shares(((1, 1), (0, 1))), with_shares(((0, 1), (1, 1))), SURE], True)

    def test_great_numbers_are_not_refused(self):
        great = 10 ** 60 - 1
        self.assertIs(is_trial(with_shares(((1, great), (great - 1, great)))), True)
        self.assertIs(is_trial(with_shares(((1, great), (great - 2, great)))), False)

    def test_other_things(self):
        self.assertEach(is_trial, ODD_THINGS + [
            ((), ()), (COINS[0],), COINS[1], COINS + ((),), (COINS[1], COINS[0]), (COINS, COINS), {"faces": "ways"},
            (("x", "y"), ()), (("x", "y"), (("p", HALVES),)), (("x", "y"), "pq"), ("xy", COINS[1]), (None, None),
            (("x", "y"), ("pq", "qr")), (("x", ["y"]), COINS[1]), ((("x",), "y"), COINS[1])], False)

    def test_things_stay_as_they_were(self):
        thing = (["x", "y"], [("p", [(1, 2), (1, 2)])])
        kept = copy.deepcopy(thing)
        self.assertIs(is_trial(thing), False)
        self.assertEqual(thing, kept)


class Called(Case):
    def test_each_name(self):
        for trial in TRIALS:
            for number, face in enumerate(trial[0]):
                self.assertTold(face_called(trial, face), number)
            for number, way in enumerate(trial[1]):
                self.assertTold(way_called(trial, way[0]), number)

    def test_names_that_nothing_has(self):
        for trial in TRIALS:
            for name in ["", " ", "nix", "way", "faces", "1", "0", "Fair", "hea", "heads", "fair loaded", "a" * 1000, "\n"]:
                self.assertIsNone(face_called(trial, name))
                self.assertIsNone(way_called(trial, name))

    def test_a_face_is_no_way(self):
        self.assertIsNone(way_called(COINS, "head"))
        self.assertIsNone(face_called(COINS, "fair"))
        alike = (("p", "q"), (("x", HALVES), ("q", HALVES), ("p", HALVES)))
        self.assertTold([face_called(alike, name) for name in "pqx"], [0, 1, None])
        self.assertTold([way_called(alike, name) for name in "pqx"], [2, 1, 0])

    def test_dice(self):
        self.assertTold([way_called(DICE, name) for name in ["even", "down", "up"]], [0, 1, 2])
        self.assertTold([face_called(DICE, name) for name in ["low", "mid", "high"]], [0, 1, 2])


if __name__ == "__main__":
    unittest.main()
