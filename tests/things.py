"""Plain things of many kinds, for what is told of any plain thing."""


def nested(depth):
    thing = 1
    for k in range(depth):
        thing = (thing,) if k % 2 else [thing]
    return thing


# None of these is a fraction or a name.
ODD_THINGS = [
    None, True, False, 0, 1, -1, 10 ** 59, "", " ", "1/2", "1", "A", [], (), {},
    [1, 2], {1: 2}, {0: 1, 1: 2}, {"a": 1}, (1,), (0, 1, 1), (1, 2, 3), ((1, 2),), ((0, 1), (1, 1)), [(1, 2)],
    ("1", "2"), ("1", 2), (1, "2"), (None, None), (1, None), (None, 1), ([1], [2]), ({}, {}), ((1,), (2,)), ((), 1),
    "12", ("a", "b"), ["a"], ("a",), nested(40),
]
