"""What the tests have in common: the very value asked for, of just its kinds, and things bent in one place."""

import unittest


def alike(told, asked):
    """Whether both are the same, kind by kind: True is no 1, a list is no tuple."""
    if type(told) is not type(asked):
        return False
    if isinstance(asked, (tuple, list)):
        return len(told) == len(asked) and all(alike(one, other) for one, other in zip(told, asked))
    if isinstance(asked, dict):
        return alike(list(told.items()), list(asked.items()))
    return told == asked


class Case(unittest.TestCase):
    def assertTold(self, told, asked):
        self.assertEqual(told, asked)
        self.assertTrue(alike(told, asked), "told is of other kinds than asked")

    def assertEach(self, tells, things, asked):
        for thing in things:
            with self.subTest(repr(thing)[:200]):
                self.assertIs(tells(thing), asked)

    def assertRefused(self, kind, fields, call, *things):
        with self.assertRaises(kind) as taken:
            call(*things)
        self.assertIs(type(taken.exception), kind)
        for name, value in fields.items():
            self.assertTold(getattr(taken.exception, name), value)


def replaced(thing, place, part):
    return thing[:place] + (part,) + thing[place + 1:]


def bent(thing):
    """Each thing that comes of a tuple by one place of another kind: none of these is what the tuple was."""
    if isinstance(thing, tuple):
        yield list(thing)
        yield None
        yield thing + (None,)
        yield thing + thing[-1:] if thing else (None, None)
        if thing:
            yield dict(enumerate(thing))
        for place in range(len(thing)):
            for part in bent(thing[place]):
                yield replaced(thing, place, part)
    elif isinstance(thing, int):
        if thing in (0, 1):
            yield bool(thing)
        yield str(thing)
        yield None
        yield (thing,)
        yield [thing]
    else:
        yield None
        yield [thing]
        yield (thing,)
        yield 1
        yield True
        yield thing.upper()
        yield thing + " "
