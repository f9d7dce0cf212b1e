"""What looks showed: rows and counts, their shares, and how likely each way is behind them."""

from earlystop.fractions import over, times, total
from earlystop.kinds import NOUGHT, ONE, is_tuple_of
from earlystop.trials import faces_of, way_shares, ways_of
from earlystop.wholes import is_whole


def is_row(trial, thing):
    return isinstance(thing, tuple) and all([is_face(faces_of(trial), one) for one in thing])


def is_face(faces, thing):
    return is_whole(thing) and 0 <= thing < faces


def is_counts(faces, thing):
    return is_tuple_of(thing, faces) and all([is_whole(one) and one >= 0 for one in thing])


def counts_of(trial, row):
    return tuple([row.count(face) for face in range(faces_of(trial))])


def share_of(trial, way, row):
    shares = way_shares(trial, way)
    product = ONE
    for face in row:
        product = times(product, shares[face])
    return product


def weight(trial, way, counts):
    product = ONE
    for share, count in zip(way_shares(trial, way), counts):
        product = times(product, power(share, count))
    return product


def power(share, count):
    # A lowest fraction multiplied by itself stays lowest: no divisor is looked for.
    upper = 1
    lower = 1
    for step in range(count):
        upper = upper * share[0]
        lower = lower * share[1]
    return (upper, lower)


def rows_to(counts):
    rows = 1
    placed = 0
    for count in counts:
        for step in range(1, count + 1):
            placed = placed + 1
            rows = rows * placed // step
    return rows


def all_counts(faces, most):
    found = []
    for many in range(most + 1):
        found.extend(counts_that_are(faces, many))
    return found


def counts_that_are(faces, many):
    if faces == 1:
        return [(many,)]
    found = []
    for first in range(many + 1):
        found.extend([(first,) + rest for rest in counts_that_are(faces - 1, many - first)])
    return found


def noughts(faces):
    return tuple([0 for face in range(faces)])


def one_more(counts, face):
    return counts[:face] + (counts[face] + 1,) + counts[face + 1:]


def one_less(counts, face):
    return counts[:face] + (counts[face] - 1,) + counts[face + 1:]


def ones_more(counts):
    return [one_more(counts, face) for face in range(len(counts))]


def ways_behind(trial, mix, counts):
    parts = [times(mix[way], weight(trial, way, counts)) for way in range(ways_of(trial))]
    whole = total(parts)
    if whole == NOUGHT:
        return None
    return tuple([over(part, whole) for part in parts])
