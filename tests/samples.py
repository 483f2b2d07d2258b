"""Webs, standings and odd values that several tests go through."""

from itertools import product


def nested(depth):
    """A tuple nested so deep."""
    value = ()
    for _ in range(depth - 1):
        value = (value,)
    return value


GREAT = 10 ** 400 - 1

# Values of every kind: none of them is a web, a standing, a deed, a way, a paper or a text.
ODD_VALUES = [
    None, True, False, 0, 1, -1, 2, GREAT, -GREAT, "", "a", "0-1", "\n", " ", "form", "9" * 5000,
    [], [1], [()], {}, {"a": 1}, {0: 1}, {(0, 1): [2]}, ((),), (None,), (True,), ("",), ([],), ({},),
    (1,), (1, 2, 3, 4, 5, 6, 7), (None, None), (True, True), ("a", "b"), ([], []), ({}, {}), (1, ()),
    (None, None, None), (True, (), ()), ("2", ((0, 1),), (1,)), ([], [], []), ({}, {}, {}),
    (GREAT, GREAT), (-GREAT, 1), (0, GREAT), (GREAT,) * 3, nested(40), [nested(39)], {"a": nested(39)},
    (("round", (0, 1, 2)),), ("round", ()), ("sides", 0, 1), (0, "round"), (0, ("round",)), (0, ()), (0, []),
    (0, ("sides", 0)), (0, ("sides", 0, None)), (0, ("sides", [], {})), (0, ("round", None)), (0, {"round": ()}),
    (None, ("sides", 0, 1)), (GREAT, ("sides", 0, 1)), (-1, ("sides", 0, 1)), (0, "sides"), (0, ("sides", "a", "b")),
    (0, ("round", ("a", "b", "c"))), (0, ("round", (None, [], {}))), (0, (None, 0, 1)), (0, ([], {})),
]

PAIR = (2, ((0, 1),), (9,))
ROW = (4, ((0, 1), (1, 2), (2, 3)), (1, 1, 2))
ROW_5 = (5, ((0, 1), (1, 2), (2, 3), (3, 4)), (1, 1, 1, 1))
MIXED_ROW = (5, ((0, 3), (1, 3), (1, 4), (2, 4)), (1, 1, 1, 1))
ROUND_4 = (4, ((0, 1), (0, 3), (1, 2), (2, 3)), (1, 2, 1, 1))
ROUND_5 = (5, ((0, 1), (0, 4), (1, 2), (2, 3), (3, 4)), (1, 1, 1, 1, 1))
STAR = (7, ((0, 4), (0, 5), (0, 6), (1, 4), (2, 5), (3, 6)), (1, 1, 1, 1, 1, 1))
FORK = (5, ((0, 1), (0, 2), (0, 3), (3, 4)), (1, 1, 1, 1))
FULL_4 = (4, ((0, 1), (0, 2), (0, 3), (1, 2), (1, 3), (2, 3)), (1,) * 6)
KITE = (5, ((0, 1), (0, 2), (1, 2), (2, 3), (3, 4)), (2, 1, 1, 1, 1))
WIDE_FORK = (4, ((0, 1), (0, 2), (0, 3)), (2, 1, 3))

SMALL_WEBS = [PAIR, ROW, ROW_5, MIXED_ROW, ROUND_4, ROUND_5, STAR, FORK, FULL_4, KITE, WIDE_FORK]


def every_standing(web):
    """All standings of a web."""
    return list(product(*[range(bears + 1) for bears in web[2]]))


def least_steps(web):
    """A table of the steps between any two places, worked out by going over each place in turn."""
    n = web[0]
    steps = [[0 if a == b else 99 for b in range(n)] for a in range(n)]
    for a, b in web[1]:
        steps[a][b] = steps[b][a] = 1
    for over in range(n):
        for a in range(n):
            for b in range(n):
                steps[a][b] = min(steps[a][b], steps[a][over] + steps[over][b])
    return steps
