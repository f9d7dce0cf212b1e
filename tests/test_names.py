"""Promises 3 and 12, what they say of names, and the interface's row "Stage 2, names"."""

import unittest

from earlystop.names import is_name
from things import ODD_THINGS

WORDS = ["faces", "way", "on", "say", "rule", "none", "price", "worth"]


class Names(unittest.TestCase):
    def test_names(self):
        for thing in ["a", "z", "head", "tail", "fair", "abcdefgh", "stuvwxyz", "ijklmnop", "qr", "zzzzzzzz"]:
            with self.subTest(thing):
                self.assertIs(is_name(thing), True)

    def test_each_letter(self):
        for letter in "abcdefghijklmnopqrstuvwxyz":
            self.assertIs(is_name(letter), True)
            self.assertIs(is_name("x" + letter + "x"), True)

    def test_words_that_are_no_names(self):
        for thing in WORDS:
            with self.subTest(thing):
                self.assertIs(is_name(thing), False)

    def test_words_like_these_are_names(self):
        for thing in ["face", "ways", "o", "n", "no", "says", "rules", "non", "prices", "worths", "look", "lot",
                      "paper", "aim", "best", "least", "check", "told", "wrong", "watch", "back", "fac", "wor"]:
            with self.subTest(thing):
                self.assertIs(is_name(thing), True)

    def test_lengths(self):
        self.assertIs(is_name(""), False)
        for length in range(1, 9):
            self.assertIs(is_name("b" * length), True)
        for length in [9, 10, 16, 100000]:
            self.assertIs(is_name("b" * length), False)

    def test_signs_that_are_no_small_letters(self):
        signs = [chr(number) for number in range(32, 127) if not "a" <= chr(number) <= "z"] + ["\n", "\t", "\u00e4"]
        for sign in signs:
            with self.subTest(sign):
                self.assertIs(is_name(sign), False)
                self.assertIs(is_name("a" + sign), False)
                self.assertIs(is_name(sign + "a"), False)
                self.assertIs(is_name("a" + sign + "a"), False)

    def test_great_letters_figures_blanks(self):
        for thing in ["A", "Head", "heaD", "HEAD", "h1", "1", "a b", " a", "a ", "a_b", "a-b", "Way", "WAY", "way "]:
            with self.subTest(thing):
                self.assertIs(is_name(thing), False)

    def test_things_that_are_no_texts(self):
        for thing in ODD_THINGS + [["a", "b"], {"a": "b"}, ("head",), ["head"], {"head": True}, [[]], ({},)]:
            with self.subTest(str(thing)):
                self.assertIs(is_name(thing), False)


if __name__ == "__main__":
    unittest.main()
