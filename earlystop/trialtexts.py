"""Trials as lines: written, and read word by word."""

from earlystop.errors import NoFraction, NoTrial
from earlystop.fractions import is_share, read_fraction, shown_fraction
from earlystop.kinds import are_parts
from earlystop.names import is_name
from earlystop.trials import LEAST_NAMES, MOST_NAMES

FACES_WORD = "faces"
WAY_WORD = "way"


def shown_trial(trial):
    lines = [" ".join([FACES_WORD] + list(trial[0]))]
    for way in trial[1]:
        lines.append(" ".join([WAY_WORD, way[0]] + [shown_fraction(share) for share in way[1]]))
    return lines


def read_trial(lines):
    faces = read_faces(lines)
    ways = []
    for line in range(1, len(lines)):
        ways.append(read_way(line, lines[line].split(" "), len(faces), [way[0] for way in ways]))
    if len(ways) < LEAST_NAMES:
        raise NoTrial(len(lines), 0)
    # Told behind all else: a later line that can't stand at all goes ahead of an earlier sum.
    for line, way in enumerate(ways, start=1):
        if not are_parts(way[1], len(faces)):
            raise NoTrial(line, 2)
    return (faces, tuple(ways))


def read_faces(lines):
    if len(lines) == 0:
        raise NoTrial(0, 0)
    words = lines[0].split(" ")
    for place, word in enumerate(words):
        if not stands_among_faces(words[:place], word):
            raise NoTrial(0, place)
    if len(words) < 1 + LEAST_NAMES:
        raise NoTrial(0, len(words))
    return tuple(words[1:])


def stands_among_faces(ahead, word):
    if len(ahead) == 0:
        return word == FACES_WORD
    return len(ahead) <= MOST_NAMES and is_name(word) and word not in ahead


def read_way(line, words, faces, names):
    for place, word in enumerate(words):
        if not stands_in_way(place, word, faces, names):
            raise NoTrial(line, place)
    if len(words) < 2 + faces:
        raise NoTrial(line, len(words))
    return (words[1], tuple([read_fraction(word) for word in words[2:]]))


def stands_in_way(place, word, faces, names):
    if place == 0:
        return word == WAY_WORD and len(names) < MOST_NAMES
    if place == 1:
        return is_name(word) and word not in names
    return place < 2 + faces and writes_share(word)


def writes_share(word):
    try:
        read = read_fraction(word)
    except NoFraction:
        return False
    return is_share(read)
