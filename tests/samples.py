"""Trials, aims and prices for the tests, few of them written, many made of a seed."""

from fractions import Fraction

COINS = (("tail", "head"), (("fair", ((1, 2), (1, 2))), ("loaded", ((1, 4), (3, 4)))))
DICE = (
    ("low", "mid", "high"),
    (("even", ((1, 3), (1, 3), (1, 3))), ("down", ((1, 2), (1, 3), (1, 6))), ("up", ((1, 10), (2, 5), (1, 2)))),
)
SUITS = (
    ("a", "b", "c", "d"),
    (
        ("a", ((1, 4), (1, 4), (1, 4), (1, 4))),
        ("b", ((0, 1), (1, 2), (1, 3), (1, 6))),
        ("c", ((0, 1), (0, 1), (0, 1), (1, 1))),
        ("d", ((7, 10), (1, 10), (1, 5), (0, 1))),
    ),
)
SURE = (("no", "yes"), (("never", ((1, 1), (0, 1))), ("always", ((0, 1), (1, 1))), ("often", ((1, 999), (998, 999)))))
TWINS = (("x", "y", "z"), (("p", ((1, 2), (1, 2), (0, 1))), ("q", ((1, 2), (1, 2), (0, 1)))))
TRIALS = [COINS, DICE, SUITS, SURE, TWINS]


def pair(value):
    return (value.numerator, value.denominator)


def sizes(trial):
    return len(trial[0]), len(trial[1])


def one_at(many, place):
    return tuple((1, 1) if k == place else (0, 1) for k in range(many))


def random_parts(rng, many):
    """So many shares that come to one, noughts and ones among them."""
    if rng.random() < 0.3:
        return one_at(many, rng.randrange(many))
    while True:
        numbers = [rng.choice([0, 1, 1, 2, 3, 5]) for k in range(many)]
        if sum(numbers) > 0:
            return tuple(pair(Fraction(number, sum(numbers))) for number in numbers)


def random_trial(rng, faces, ways):
    return (tuple("abcd"[:faces]), tuple(("stuv"[way], random_parts(rng, faces)) for way in range(ways)))


def turn_trial(rng, turn):
    """A written trial at odd turns, one made by chance at even ones."""
    return TRIALS[turn % len(TRIALS)] if turn % 2 else random_trial(rng, rng.randint(2, 4), rng.randint(2, 4))


def random_aim(rng, trial, most):
    ways = len(trial[1])
    bounds = tuple(pair(Fraction(rng.randint(0, 8), 8)) for way in range(ways))
    costs = tuple(pair(Fraction(rng.choice([0, 1, 1, 2, 5, 30]), rng.randint(1, 9))) for look in range(most))
    return (most, bounds, random_parts(rng, ways), costs)


def random_prices(rng, trial):
    return tuple(pair(Fraction(rng.choice([0, 1, 3, 10, 100, 999]), rng.randint(1, 9))) for way in trial[1])
