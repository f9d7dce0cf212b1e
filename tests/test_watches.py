"""Promises 36 and 37, and the interface's row "Stage 10, watches"."""

import random
import unittest
from fractions import Fraction

from earlystop.errors import NoBack, NoLook
from earlystop.rules import rule_of
from earlystop.watches import Watch
from brute import value
from cases import Case
from rulesamples import FIRST, ON, SECOND, trials_and_rules
from samples import one_at, pair
from things import ODD_THINGS

ONE_LOOK = (((0, 0), ON), ((0, 1), SECOND), ((1, 0), FIRST))
THIRDS = ((1, 3), (1, 3), (1, 3))
BY_LOTS = (((0, 0), THIRDS), ((0, 1), ((0, 1), (1, 4), (3, 4))), ((1, 0), ON), ((1, 1), SECOND), ((2, 0), FIRST))
GAPS = rule_of(2, 4, {(0, 0): ((0, 1), (1, 2), (0, 1), (1, 2), (0, 1))})
NO_FACES = [thing for thing in ODD_THINGS if type(thing) is not int] + [
    True, False, None, -1, 2, 3, 10 ** 59, "0", "", (0,), [0], {}, {0: 0}, (0, 1), "tail"]
NO_LOTS = [thing for thing in ODD_THINGS] + [
    (1, 1), (-1, 2), (3, 2), (2, 1), (-1, 1), (2, 4), (0, 2), (1, 0), (0, 0), (1, -2), (True, 2), (1, True), (False, 1),
    (0, True), [1, 2], [0, 1], 0, 1, "0", "1/2", None, True, False, (1,), (1, 2, 3), (10 ** 30, 10 ** 30 - 1)]


class Cases(Case):
    def stands(self, watch, due, counts, way, trail):
        self.assertTold(watch.due(), due)
        self.assertTold(watch.seen(), counts)
        self.assertTold(watch.way(), way)
        self.assertTold(watch.trail(), trail)

    def refused(self, word, call, *things):
        with self.subTest(repr(things)[:100]):
            self.assertRefused(NoLook, {"word": word}, call, *things)


class Watches(Cases):
    def test_plain(self):
        watch = Watch(ONE_LOOK)
        self.stands(watch, "look", (0, 0), None, [])
        self.assertIsNone(watch.look(1))
        self.stands(watch, "", (0, 1), 1, [("look", 1)])
        self.assertIsNone(watch.back())
        self.stands(watch, "look", (0, 0), None, [])
        watch.look(0)
        self.stands(watch, "", (1, 0), 0, [("look", 0)])

    def test_said_at_once(self):
        self.stands(Watch((((0, 0), FIRST),)), "", (0, 0), 0, [])
        self.stands(Watch((((0, 0), SECOND),)), "", (0, 0), 1, [])
        self.stands(Watch((((0, 0, 0), one_at(5, 4)),)), "", (0, 0, 0), 3, [])

    def test_by_lots(self):
        watch = Watch(BY_LOTS)
        self.stands(watch, "lot", (0, 0), None, [])
        self.assertIsNone(watch.lot((1, 4)))
        self.stands(watch, "look", (0, 0), None, [("lot", (1, 4))])
        watch.look(1)
        self.stands(watch, "lot", (0, 1), None, [("lot", (1, 4)), ("look", 1)])
        watch.lot((1, 4))
        self.stands(watch, "", (0, 1), 1, [("lot", (1, 4)), ("look", 1), ("lot", (1, 4))])

    def test_a_look_behind_a_lot_and_no_lot_behind_it(self):
        watch = Watch(BY_LOTS)
        watch.lot((0, 1))
        watch.look(0)
        self.stands(watch, "look", (1, 0), None, [("lot", (0, 1)), ("look", 0)])
        watch.look(0)
        self.stands(watch, "", (2, 0), 0, [("lot", (0, 1)), ("look", 0), ("look", 0)])

    def test_lots_just_at_the_sums_and_beside_them(self):
        step = Fraction(1, 10 ** 28)
        for rule in [BY_LOTS, GAPS, rule_of(2, 2, {(0, 0): ((0, 1), (1, 7), (6, 7))})]:
            sums = [Fraction(0)]
            for share in rule[0][1]:
                sums.append(sums[-1] + value(share))
            for at in sums:
                for lot in [at - step, at, at + step]:
                    if 0 <= lot < 1:
                        watch = Watch(rule)
                        watch.lot(pair(lot))
                        place = [up_to > lot for up_to in sums[1:]].index(True)
                        self.stands(watch, "" if place else "look", (0, 0), place - 1 if place else None,
                                    [("lot", pair(lot))])

    def test_lots_by_hand(self):
        for lot, way in [((0, 1), None), ((333, 1000), None), ((1, 3), 0), ((1, 2), 0), ((665, 999), 0), ((2, 3), 1),
                         ((998, 999), 1), ((10 ** 29 - 1, 10 ** 29), 1)]:
            watch = Watch(BY_LOTS)
            watch.lot(lot)
            self.assertTold(watch.way(), way)
        for lot, way in [((0, 1), 0), ((499, 999), 0), ((1, 2), 2), ((998, 999), 2)]:
            watch = Watch(GAPS)
            watch.lot(lot)
            self.assertTold(watch.way(), way)

    def test_no_lot_is_due_where_there_is_a_one(self):
        self.assertTold(Watch(ONE_LOOK).due(), "look")
        self.assertTold(Watch((((0, 0), ((0, 1), (998, 999), (1, 999))),)).due(), "lot")


class Refused(Cases):
    def test_said(self):
        watch = Watch(ONE_LOOK)
        watch.look(1)
        for thing in [0, 1] + NO_FACES:
            self.refused("said", watch.look, thing)
        for thing in [(0, 1), (1, 2)] + NO_LOTS:
            self.refused("said", watch.lot, thing)
        self.stands(watch, "", (0, 1), 1, [("look", 1)])

    def test_said_by_a_lot(self):
        watch = Watch(BY_LOTS)
        watch.lot((1, 2))
        for thing in [0, (1, 2), None]:
            self.refused("said", watch.look, thing)
            self.refused("said", watch.lot, thing)
        self.stands(watch, "", (0, 0), 0, [("lot", (1, 2))])

    def test_a_lot_is_due(self):
        watch = Watch(BY_LOTS)
        for thing in [0, 1] + NO_FACES:
            self.refused("lot", watch.look, thing)
        self.stands(watch, "lot", (0, 0), None, [])

    def test_a_look_is_due(self):
        watch = Watch(BY_LOTS)
        watch.lot((0, 1))
        for thing in [(0, 1), (1, 2)] + NO_LOTS:
            self.refused("look", watch.lot, thing)
        self.stands(watch, "look", (0, 0), None, [("lot", (0, 1))])

    def test_no_face(self):
        watch = Watch(ONE_LOOK)
        for thing in NO_FACES:
            self.refused("face", watch.look, thing)
        self.stands(watch, "look", (0, 0), None, [])

    def test_faces_of_longer_counts(self):
        for faces in (2, 3, 4):
            table = {(0,) * faces: ON}
            for face in range(faces):
                table[tuple(1 if k == face else 0 for k in range(faces))] = FIRST
            for face in range(-1, 6):
                watch = Watch(rule_of(faces, 2, table))
                if 0 <= face < faces:
                    watch.look(face)
                    self.assertTold(watch.seen(), tuple(1 if k == face else 0 for k in range(faces)))
                else:
                    self.refused("face", watch.look, face)

    def test_no_share(self):
        watch = Watch(BY_LOTS)
        for thing in NO_LOTS:
            self.refused("share", watch.lot, thing)
        self.stands(watch, "lot", (0, 0), None, [])

    def test_back_beyond_the_beginning(self):
        for rule in [ONE_LOOK, BY_LOTS, GAPS]:
            watch = Watch(rule)
            due = watch.due()
            for k in range(3):
                self.assertRefused(NoBack, {}, watch.back)
                self.stands(watch, due, (0, 0), None, [])
        watch = Watch(BY_LOTS)
        watch.lot((0, 1))
        watch.look(0)
        watch.look(1)
        for k in range(3):
            self.assertIsNone(watch.back())
        self.assertRefused(NoBack, {}, watch.back)
        self.stands(watch, "lot", (0, 0), None, [])

    def test_back_behind_a_refusal_takes_the_last_thing_told(self):
        watch = Watch(BY_LOTS)
        watch.lot((0, 1))
        self.refused("face", watch.look, 7)
        self.refused("look", watch.lot, (0, 1))
        watch.back()
        self.stands(watch, "lot", (0, 0), None, [])


class Kept(Cases):
    def test_a_told_trail_changed_behind(self):
        watch = Watch(BY_LOTS)
        watch.lot((0, 1))
        told = watch.trail()
        told.append(("look", 0))
        told[0] = None
        self.stands(watch, "look", (0, 0), None, [("lot", (0, 1))])
        told = watch.trail()
        told.clear()
        self.stands(watch, "look", (0, 0), None, [("lot", (0, 1))])

    def test_a_told_trail_stays_as_it_was(self):
        watch = Watch(BY_LOTS)
        void = watch.trail()
        watch.lot((0, 1))
        told = watch.trail()
        watch.look(0)
        watch.back()
        watch.back()
        self.assertTold(void, [])
        self.assertTold(told, [("lot", (0, 1))])

    def test_two_watches_of_one_rule_by_turns(self):
        one, other = Watch(BY_LOTS), Watch(BY_LOTS)
        one.lot((0, 1))
        self.stands(other, "lot", (0, 0), None, [])
        other.lot((2, 3))
        one.look(1)
        self.stands(other, "", (0, 0), 1, [("lot", (2, 3))])
        self.stands(one, "lot", (0, 1), None, [("lot", (0, 1)), ("look", 1)])
        other.back()
        one.lot((0, 1))
        self.stands(other, "lot", (0, 0), None, [])
        self.stands(one, "", (0, 1), 0, [("lot", (0, 1)), ("look", 1), ("lot", (0, 1))])

    def test_there_and_back_along_many_rules(self):
        rng = random.Random(37)
        for trial, rule in trials_and_rules(37, 80):
            watch = Watch(rule)
            stands = []
            while watch.due() != "":
                stands.append((watch.due(), watch.seen(), watch.way(), watch.trail()))
                if watch.due() == "look":
                    watch.look(rng.randrange(len(trial[0])))
                else:
                    watch.lot(pair(Fraction(rng.randrange(999), 999)))
            says = dict(rule)[watch.seen()]
            self.assertGreater(says[1 + watch.way()][0], 0)
            for stand in reversed(stands):
                watch.back()
                self.stands(watch, *stand)
            self.assertRefused(NoBack, {}, watch.back)

    def test_taken_back_and_told_otherwise(self):
        watch = Watch(BY_LOTS)
        watch.lot((1, 2))
        self.assertTold(watch.way(), 0)
        watch.back()
        watch.lot((2, 3))
        self.assertTold(watch.way(), 1)
        watch.back()
        watch.lot((1, 4))
        watch.look(0)
        watch.back()
        watch.look(1)
        self.stands(watch, "lot", (0, 1), None, [("lot", (1, 4)), ("look", 1)])


if __name__ == "__main__":
    unittest.main()
