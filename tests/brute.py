"""What is told of a rule, by walking every row of looks, each by itself."""

from fractions import Fraction


def value(one):
    return Fraction(*one)


def seen_counts(row, faces):
    return tuple(row.count(face) for face in range(faces))


def row_share(trial, way, row):
    share = Fraction(1)
    for face in row:
        share *= value(trial[1][way][1][face])
    return share


def stops(trial, rule, way):
    """All (row, way said, share): the rows behind which it stops, by what lots may fall."""
    says_of = dict(rule)
    faces = len(trial[0])

    def walk(row, lots):
        says = says_of[seen_counts(row, faces)]
        for word in range(1, len(says)):
            if says[word][0]:
                yield row, word - 1, lots * value(says[word]) * row_share(trial, way, row)
        if says[0][0]:
            for face in range(faces):
                yield from walk(row + (face,), lots * value(says[0]))

    return list(walk((), Fraction(1)))


def said(trial, rule, way):
    found = [Fraction(0)] * len(trial[1])
    for row, word, share in stops(trial, rule, way):
        found[word] += share
    return found


def ended(trial, rule, way):
    found = [Fraction(0)] * (1 + max(sum(counts) for counts, says in rule))
    for row, word, share in stops(trial, rule, way):
        found[len(row)] += share
    return found


def spent(trial, rule, way, costs):
    return sum((share * sum(costs[:len(row)]) for row, word, share in stops(trial, rule, way)), Fraction(0))


def wrong(trial, rule):
    return [sum((share for row, word, share in stops(trial, rule, way) if word != way), Fraction(0))
            for way in range(len(trial[1]))]


def amounts(rule):
    """For each counts the sum, over the rows that have them, of the lots by which the row isn't stopped ahead."""
    says_of = dict(rule)
    faces = len(rule[0][0])
    found = {counts: Fraction(0) for counts in says_of}

    def walk(row, lots):
        counts = seen_counts(row, faces)
        found[counts] += lots
        if says_of[counts][0][0]:
            for face in range(faces):
                walk(row + (face,), lots * value(says_of[counts][0]))

    walk((), Fraction(1))
    return found
