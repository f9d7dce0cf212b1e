"""Trials: the faces that a look can show, and the ways with their shares for each face."""

from earlystop.kinds import are_parts, is_tuple_of
from earlystop.names import is_name

LEAST_NAMES = 2
MOST_NAMES = 4


def is_trial(thing):
    if not is_tuple_of(thing, 2) or not are_unlike_names(thing[0]) or not isinstance(thing[1], tuple):
        return False
    faces = len(thing[0])
    if not all([is_way(one, faces) for one in thing[1]]):
        return False
    return are_unlike_names(tuple([one[0] for one in thing[1]]))


def are_unlike_names(thing):
    if not isinstance(thing, tuple) or not LEAST_NAMES <= len(thing) <= MOST_NAMES:
        return False
    return all([is_name(one) for one in thing]) and len(set(thing)) == len(thing)


def is_way(thing, faces):
    return is_tuple_of(thing, 2) and is_name(thing[0]) and are_parts(thing[1], faces)


def way_called(trial, name):
    return place_of([way[0] for way in trial[1]], name)


def face_called(trial, name):
    return place_of(list(trial[0]), name)


def place_of(names, name):
    return names.index(name) if name in names else None


def faces_of(trial):
    return len(trial[0])


def ways_of(trial):
    return len(trial[1])


def way_shares(trial, way):
    return trial[1][way][1]
