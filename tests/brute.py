"""What is told of a rule, by walking every row of looks, each by itself; and worths by the document's words."""

import itertools
from fractions import Fraction

from samples import pair


def value(one):
    return Fraction(*one)


def seen_counts(row, faces):
    return tuple(row.count(face) for face in range(faces))


def row_share(trial, way, row):
    share = Fraction(1)
    for face in row:
        share *= value(trial[1][way][1][face])
    return share


def stops(trial, rule, way):
    """All (row, way said, share): the rows behind which it stops, by what lots may fall."""
    says_of = dict(rule)
    faces = len(trial[0])

    def walk(row, lots):
        says = says_of[seen_counts(row, faces)]
        for word in range(1, len(says)):
            if says[word][0]:
                yield row, word - 1, lots * value(says[word]) * row_share(trial, way, row)
        if says[0][0]:
            for face in range(faces):
                yield from walk(row + (face,), lots * value(says[0]))

    return list(walk((), Fraction(1)))


def said(trial, rule, way):
    found = [Fraction(0)] * len(trial[1])
    for row, word, share in stops(trial, rule, way):
        found[word] += share
    return found


def ended(trial, rule, way):
    found = [Fraction(0)] * (1 + max(sum(counts) for counts, says in rule))
    for row, word, share in stops(trial, rule, way):
        found[len(row)] += share
    return found


def spent(trial, rule, way, costs):
    return sum((share * sum(costs[:len(row)]) for row, word, share in stops(trial, rule, way)), Fraction(0))


def wrong(trial, rule):
    return [sum((share for row, word, share in stops(trial, rule, way) if word != way), Fraction(0))
            for way in range(len(trial[1]))]


def amounts(rule):
    """For each counts the sum, over the rows that have them, of the lots by which the row isn't stopped ahead."""
    says_of = dict(rule)
    faces = len(rule[0][0])
    found = {counts: Fraction(0) for counts in says_of}

    def walk(row, lots):
        counts = seen_counts(row, faces)
        found[counts] += lots
        if says_of[counts][0][0]:
            for face in range(faces):
                walk(row + (face,), lots * value(says_of[counts][0]))

    walk((), Fraction(1))
    return found


def cost(trial, rule, aim):
    costs = [value(one) for one in aim[3]]
    return sum((value(aim[2][way]) * spent(trial, rule, way, costs) for way in range(len(trial[1]))), Fraction(0))


def priced(trial, rule, aim, prices):
    return cost(trial, rule, aim) + sum(value(price) * share for price, share in zip(prices, wrong(trial, rule)))


def weigh(trial, way, counts):
    product = Fraction(1)
    for share, count in zip(trial[1][way][1], counts):
        product *= value(share) ** count
    return product


def sums(trial, aim, prices, counts, worth):
    """By the words of the document: stopping with each way, then looking on, by what worth tells of counts behind."""
    most, bounds, mix, costs = aim
    ways = range(len(trial[1]))
    dues = [value(prices[way]) * weigh(trial, way, counts) for way in ways]
    found = [sum(dues[w] for w in ways if w != v) for v in ways]
    if sum(counts) < most:
        met = sum(value(mix[way]) * weigh(trial, way, counts) for way in ways)
        more = [tuple(c + (k == face) for k, c in enumerate(counts)) for face in range(len(counts))]
        found.append(met * value(costs[sum(counts)]) + sum(worth(one) for one in more))
    return found


def rising(faces, most):
    found = [counts for counts in itertools.product(range(most + 1), repeat=faces) if sum(counts) <= most]
    return sorted(found, key=lambda counts: (sum(counts), counts))


def worths(trial, aim, prices):
    found = {}

    def worth(counts):
        if counts not in found:
            found[counts] = min(sums(trial, aim, prices, counts, worth))
        return found[counts]

    return tuple((counts, pair(Fraction(worth(counts)))) for counts in rising(len(trial[0]), aim[0]))
