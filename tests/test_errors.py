"""Promise 2 and the interface's row "errors"."""

import unittest

from earlystop import errors
from earlystop.errors import (
    EarlyError, NoBack, NoBounds, NoFraction, NoLines, NoLook, NoOrder, NoPaper, NoRow, NoRule, NoTrial,
)

# Each class, the things it is made of, the fields that keep them.
MADE = [
    (NoTrial, (3, 2), ("line", "word")),
    (NoRule, ((0, 1, 2),), ("counts",)),
    (NoBounds, (4,), ("k",)),
    (NoLook, ("lot",), ("word",)),
    (NoPaper, ("most", (5, 0)), ("word", "at")),
    (NoLines, (7,), ("line",)),
    (NoFraction, ("a text",), ()),
    (NoOrder, ("a text",), ()),
    (NoBack, ("a text",), ()),
    (NoRow, ("a text",), ()),
]
FIELDS = ("line", "word", "counts", "k", "at")


class Errors(unittest.TestCase):
    def test_base_stands_straight_under_value_error(self):
        self.assertEqual(EarlyError.__bases__, (ValueError,))

    def test_there_are_ten_and_the_base(self):
        found = [thing for thing in vars(errors).values() if isinstance(thing, type)]
        self.assertEqual(len(found), 11)
        self.assertEqual(set(found), {EarlyError} | {kind for kind, things, fields in MADE})

    def test_each_stands_straight_under_the_base_alone(self):
        for kind, things, fields in MADE:
            with self.subTest(kind.__name__):
                self.assertEqual(kind.__bases__, (EarlyError,))

    def test_each_is_of_no_other_class(self):
        for kind, things, fields in MADE:
            for other, other_things, other_fields in MADE:
                with self.subTest(kind.__name__ + " " + other.__name__):
                    self.assertEqual(isinstance(kind(*things), other), kind == other)

    def test_each_keeps_its_things_as_fields(self):
        for kind, things, fields in MADE:
            with self.subTest(kind.__name__):
                made = kind(*things)
                for name, thing in zip(fields, things):
                    self.assertEqual(getattr(made, name), thing)
                    self.assertIs(type(getattr(made, name)), type(thing))
                self.assertEqual(tuple(name for name in FIELDS if name in vars(made)),
                                 tuple(name for name in FIELDS if name in fields))

    def test_two_of_a_class_keep_their_own(self):
        one = NoPaper("shape", None)
        other = NoPaper("wrong", 1)
        self.assertEqual((one.word, one.at), ("shape", None))
        self.assertEqual((other.word, other.at), ("wrong", 1))

    def test_each_is_made_of_just_its_things(self):
        for kind, things, fields in MADE:
            if fields:
                with self.subTest(kind.__name__):
                    with self.assertRaises(TypeError):
                        kind(*things, 0)
                    with self.assertRaises(TypeError):
                        kind(*things[1:])

    def test_each_is_raised_and_taken_as_the_base_and_shown(self):
        for kind, things, fields in MADE:
            with self.subTest(kind.__name__):
                with self.assertRaises(EarlyError) as taken:
                    raise kind(*things)
                self.assertIs(type(taken.exception), kind)
                self.assertNotEqual(str(taken.exception), "")

    def test_made_of_great_numbers(self):
        great = 10 ** 5000
        self.assertEqual(NoRule((great, 0)).counts, (great, 0))
        self.assertEqual(NoPaper("most", (great, 0)).at, (great, 0))


if __name__ == "__main__":
    unittest.main()
