"""Promises 13 and 14, and the interface's row "Stage 2, trialtexts"."""

import random
import unittest

from earlystop.errors import NoTrial
from earlystop.trials import is_trial
from earlystop.trialtexts import read_trial, shown_trial
from cases import Case
from samples import COINS, DICE, SUITS, SURE, TRIALS, random_trial

FACES = "faces x y"
P = "way p 1/2 1/2"
Q = "way q 1/4 3/4"


class Shown(Case):
    def test_word_for_word(self):
        self.assertTold(shown_trial(COINS), ["faces tail head", "way fair 1/2 1/2", "way loaded 1/4 3/4"])
        self.assertTold(shown_trial(DICE), [
            "faces low mid high", "way even 1/3 1/3 1/3", "way down 1/2 1/3 1/6", "way up 1/10 2/5 1/2"])
        self.assertTold(shown_trial(SUITS), [
            "faces a b c d", "way a 1/4 1/4 1/4 1/4", "way b 0 1/2 1/3 1/6", "way c 0 0 0 1", "way d 7/10 1/10 1/5 0"])
        self.assertTold(shown_trial(SURE), ["faces no yes", "way never 1 0", "way always 0 1", "way often 1/999 998/999"])

    def test_new_each_time(self):
        told = shown_trial(COINS)
        told.append("way x 1 0")
        told[0] = ""
        self.assertTold(shown_trial(COINS), ["faces tail head", "way fair 1/2 1/2", "way loaded 1/4 3/4"])


class Read(Case):
    def refused(self, lines, line, word):
        with self.subTest(repr(lines)[:200]):
            kept = list(lines)
            self.assertRefused(NoTrial, {"line": line, "word": word}, read_trial, lines)
            self.assertEqual(lines, kept)

    def test_read_back(self):
        for trial in TRIALS:
            self.assertTold(read_trial(shown_trial(trial)), trial)

    def test_many_read_back(self):
        rng = random.Random(14)
        for k in range(60):
            trial = random_trial(rng, rng.randint(2, 4), rng.randint(2, 4))
            lines = shown_trial(trial)
            self.assertTold(read_trial(lines), trial)
            self.assertTold(lines, shown_trial(trial))

    def test_great_numbers_read_back(self):
        great = 10 ** 3999 + 1
        trial = (("x", "y"), (("p", ((1, great), (great - 1, great))), ("q", ((0, 1), (1, 1)))))
        self.assertTold(read_trial(shown_trial(trial)), trial)

    def test_changed_behind(self):
        lines = [FACES, P, Q]
        told = read_trial(lines)
        lines[0] = "faces a b"
        lines.pop()
        self.assertTold(told, (("x", "y"), (("p", ((1, 2), (1, 2))), ("q", ((1, 4), (3, 4))))))

    def test_a_face_and_a_way_called_alike(self):
        self.assertTold(read_trial(["faces x y", "way y 1 0", "way x 0 1"]),
                        (("x", "y"), (("y", ((1, 1), (0, 1))), ("x", ((0, 1), (1, 1))))))

    def test_no_line_at_all(self):
        self.refused([], 0, 0)

    def test_first_words(self):
        for first in ["", "face", "Faces", "way", "FACES", "faces:", "x", "\n"]:
            self.refused([first + " x y", P, Q], 0, 0)
        self.refused([P, Q], 0, 0)
        for first in ["", "ways", "Way", "faces", "WAY", "p", "way\n"]:
            self.refused([FACES, first + " p 1/2 1/2", Q], 1, 0)
            self.refused([FACES, P, first + " q 1/2 1/2"], 2, 0)
            self.refused([FACES, P, Q, first + " z 1/2 1/2"], 3, 0)
        self.refused([FACES, FACES, P, Q], 1, 0)
        self.refused([FACES, P, Q, FACES], 3, 0)

    def test_void_lines(self):
        self.refused([""], 0, 0)
        self.refused(["", FACES, P, Q], 0, 0)
        self.refused([FACES, "", P, Q], 1, 0)
        self.refused([FACES, P, "", Q], 2, 0)
        self.refused([FACES, P, Q, ""], 3, 0)
        self.refused([" "], 0, 0)

    def test_words_that_are_no_names(self):
        for word in ["way", "faces", "on", "say", "rule", "none", "price", "worth", "X", "abcdefghi", "1", "1/2", "x1", "-"]:
            self.refused([f"faces {word} y", P, Q], 0, 1)
            self.refused([f"faces x {word}", P, Q], 0, 2)
            self.refused([f"faces x y {word}", P, Q], 0, 3)
            self.refused([f"faces x y z {word}", P, Q], 0, 4)
            self.refused([FACES, f"way {word} 1/2 1/2", Q], 1, 1)
            self.refused([FACES, P, f"way {word} 1/2 1/2"], 2, 1)

    def test_names_told_already(self):
        self.refused(["faces x x", P, Q], 0, 2)
        self.refused(["faces x y x", P, Q], 0, 3)
        self.refused(["faces x y z y", P, Q], 0, 4)
        self.refused([FACES, P, "way p 1/4 3/4"], 2, 1)
        self.refused([FACES, P, Q, "way p 1/4 3/4"], 3, 1)
        self.refused([FACES, P, Q, "way q 1/4 3/4"], 3, 1)

    def test_a_fifth_face(self):
        shares = "1/4 1/4 1/4 1/4"
        self.refused(["faces a b c d e", "way p " + shares, "way q " + shares], 0, 5)
        self.refused(["faces a b c d a", "way p " + shares, "way q " + shares], 0, 5)
        self.refused(["faces a b c d 5", "way p " + shares, "way q " + shares], 0, 5)
        self.refused(["faces a b c d e f g", "way p " + shares], 0, 5)

    def test_a_fifth_way(self):
        lines = [FACES] + [f"way {name} 1/2 1/2" for name in "pqrs"]
        self.assertTold(len(read_trial(lines)[1]), 4)
        for line in ["way t 1/2 1/2", "way p 1/2 1/2", "way", "", "way t", "faces t", "way t 1/2 1/2 1/2", " way"]:
            self.refused(lines + [line], 5, 0)
            self.refused(lines + [line, line], 5, 0)

    def test_words_that_write_no_share(self):
        for word in ["", "2/4", "0/1", "1/1", "-1/2", "3/2", "2", "-1", "01", "1/02", "x", "p", "1.5", "1/0", "-0", "+1",
                     "1/", "/2", "1/2/3", "way", "1\n", "1" * 4001, "1/" + "7" * 4001]:
            self.refused([FACES, f"way p {word} 1/2", Q], 1, 2)
            self.refused([FACES, f"way p 1/2 {word}", Q], 1, 3)
            self.refused([FACES, P, f"way q 1/2 {word}"], 2, 3)

    def test_one_too_many(self):
        for word in ["1/2", "0", "p", "", "2/4", "way"]:
            self.refused([FACES, f"way p 1/2 1/2 {word}", Q], 1, 4)
            self.refused([FACES, P, f"way q 1/2 1/2 {word}"], 2, 4)
            self.refused([FACES, P, f"way q 1/2 1/2 {word} {word}"], 2, 4)
        self.refused(["faces x y z", "way p 0 0 1 0", "way q 0 0 1"], 1, 5)

    def test_a_line_that_lacks_words(self):
        self.refused(["faces", P, Q], 0, 1)
        self.refused(["faces x", P, Q], 0, 2)
        self.refused(["faces"], 0, 1)
        self.refused([FACES, "way", Q], 1, 1)
        self.refused([FACES, "way p", Q], 1, 2)
        self.refused([FACES, "way p 1", Q], 1, 3)
        self.refused([FACES, P, "way q 1/2"], 2, 3)
        self.refused(["faces x y z", "way p 1/2 1/2", "way q 0 0 1"], 1, 4)
        self.refused(["faces a b c d", "way p 0 0 1", "way q 0 0 1"], 1, 5)

    def test_blanks(self):
        self.refused(["faces  x y", P, Q], 0, 1)
        self.refused(["faces x  y", P, Q], 0, 2)
        self.refused(["faces x y ", P, Q], 0, 3)
        self.refused([" faces x y", P, Q], 0, 0)
        self.refused(["faces ", P, Q], 0, 1)
        self.refused(["faces x ", P, Q], 0, 2)
        self.refused([FACES, "way  p 1/2 1/2", Q], 1, 1)
        self.refused([FACES, "way p  1/2 1/2", Q], 1, 2)
        self.refused([FACES, "way p 1/2  1/2", Q], 1, 3)
        self.refused([FACES, "way p 1/2 1/2 ", Q], 1, 4)
        self.refused([FACES, " way p 1/2 1/2", Q], 1, 0)
        self.refused([FACES, "way p 1/2 ", Q], 1, 3)
        self.refused([FACES, "way ", Q], 1, 1)
        self.refused(["faces x\ty", P, Q], 0, 1)
        self.refused([FACES + "\n", P, Q], 0, 2)

    def test_fewer_than_two_ways(self):
        self.refused([FACES], 1, 0)
        self.refused([FACES, P], 2, 0)
        self.refused(["faces a b c d", "way p 0 0 0 1"], 2, 0)

    def test_shares_that_do_not_come_to_one(self):
        self.refused([FACES, "way p 1/2 1/3", Q], 1, 2)
        self.refused([FACES, P, "way q 1 1"], 2, 2)
        self.refused([FACES, P, Q, "way r 0 0"], 3, 2)
        self.refused([FACES, P, "way q 1 1", "way r 0 0"], 2, 2)
        self.refused([FACES, "way p 0 0", "way q 1 1", "way r 0 0"], 1, 2)

    def test_sums_are_told_behind_all_else(self):
        self.refused([FACES, "way p 1 1"], 2, 0)
        self.refused([FACES, "way p 1 1", "way q 1 x"], 2, 3)
        self.refused([FACES, "way p 1 1", "way p 1 0"], 2, 1)
        self.refused([FACES, "way p 1 1", "way q 1"], 2, 3)
        self.refused([FACES, "way p 1 1", "way q 1 0 0"], 2, 4)
        self.refused([FACES, "way p 1 1", Q, ""], 3, 0)
        self.refused([FACES, "way p 1 1"] + [f"way {name} 1 0" for name in "qrst"], 5, 0)

    def test_the_first_line_and_word_are_told(self):
        self.refused(["faces x 1 2", "way 1"], 0, 2)
        self.refused(["faces x", "w"], 0, 2)
        self.refused([FACES, "way 1 2 3", "w"], 1, 1)
        self.refused([FACES, "way p x y", "w"], 1, 2)
        self.refused([FACES, "way p", "w"], 1, 2)
        self.refused([FACES, P, "way p x"], 2, 1)

    def test_each_line_out_of_its_place(self):
        for trial in TRIALS:
            lines = shown_trial(trial)
            for place in range(1, len(lines)):
                self.refused(lines[place:] + lines[:place], 0, 0)
                self.refused(lines[:place] + [lines[0]] + lines[place:], place, 0)

    def test_what_is_read_is_a_trial(self):
        words = ["faces", "way", "x", "y", "p", "1/2", "1", "0", ""]
        rng = random.Random(3)
        read = 0
        for k in range(3000):
            lines = [FACES, P, Q]
            line = rng.randrange(3)
            changed = lines[line].split(" ")
            changed[rng.randrange(len(changed))] = rng.choice(words)
            lines[line] = " ".join(changed)
            try:
                told = read_trial(lines)
            except NoTrial as refused:
                self.assertEqual(type(refused.line), int)
                continue
            read += 1
            self.assertIs(is_trial(told), True)
            self.assertEqual(shown_trial(told), lines)
        self.assertGreater(read, 100)


if __name__ == "__main__":
    unittest.main()
