"""Webs, standings and odd values that several tests go through."""

from itertools import combinations, product
from random import Random


def nested(depth):
    """A tuple nested so deep."""
    value = ()
    for _ in range(depth - 1):
        value = (value,)
    return value


GREAT = 10 ** 400 - 1

# Values of every kind: none of them is a web, a standing, a deed, a way, a paper or a text.
ODD_VALUES = [
    None, True, False, 0, 1, -1, 2, GREAT, -GREAT, "", "a", "0-1", "\n", " ", "form", "9" * 5000,
    [], [1], [()], {}, {"a": 1}, {0: 1}, {(0, 1): [2]}, ((),), (None,), (True,), ("",), ([],), ({},),
    (1,), (1, 2, 3, 4, 5, 6, 7), (None, None), (True, True), ("a", "b"), ([], []), ({}, {}), (1, ()),
    (None, None, None), (True, (), ()), ("2", ((0, 1),), (1,)), ([], [], []), ({}, {}, {}),
    (GREAT, GREAT), (-GREAT, 1), (0, GREAT), (GREAT,) * 3, nested(40), [nested(39)], {"a": nested(39)},
    (("round", (0, 1, 2)),), ("round", ()), ("sides", 0, 1), (0, "round"), (0, ("round",)), (0, ()), (0, []),
    (0, ("sides", 0)), (0, ("sides", 0, None)), (0, ("sides", [], {})), (0, ("round", None)), (0, {"round": ()}),
    (None, ("sides", 0, 1)), (GREAT, ("sides", 0, 1)), (-1, ("sides", 0, 1)), (0, "sides"), (0, ("sides", "a", "b")),
    (0, ("round", ("a", "b", "c"))), (0, ("round", (None, [], {}))), (0, (None, 0, 1)), (0, ([], {})),
]

PAIR = (2, ((0, 1),), (9,))
ROW = (4, ((0, 1), (1, 2), (2, 3)), (1, 1, 2))
ROW_5 = (5, ((0, 1), (1, 2), (2, 3), (3, 4)), (1, 1, 1, 1))
MIXED_ROW = (5, ((0, 3), (1, 3), (1, 4), (2, 4)), (1, 1, 1, 1))
ROUND_4 = (4, ((0, 1), (0, 3), (1, 2), (2, 3)), (1, 2, 1, 1))
ROUND_5 = (5, ((0, 1), (0, 4), (1, 2), (2, 3), (3, 4)), (1, 1, 1, 1, 1))
STAR = (7, ((0, 4), (0, 5), (0, 6), (1, 4), (2, 5), (3, 6)), (1, 1, 1, 1, 1, 1))
FORK = (5, ((0, 1), (0, 2), (0, 3), (3, 4)), (1, 1, 1, 1))
FULL_4 = (4, ((0, 1), (0, 2), (0, 3), (1, 2), (1, 3), (2, 3)), (1,) * 6)
KITE = (5, ((0, 1), (0, 2), (1, 2), (2, 3), (3, 4)), (2, 1, 1, 1, 1))
WIDE_FORK = (4, ((0, 1), (0, 2), (0, 3)), (2, 1, 3))

SMALL_WEBS = [PAIR, ROW, ROW_5, MIXED_ROW, ROUND_4, ROUND_5, STAR, FORK, FULL_4, KITE, WIDE_FORK]


def every_standing(web):
    """All standings of a web."""
    return list(product(*[range(bears + 1) for bears in web[2]]))


def least_steps(web):
    """A table of the steps between any two places, worked out by going over each place in turn."""
    n = web[0]
    steps = [[0 if a == b else 99 for b in range(n)] for a in range(n)]
    for a, b in web[1]:
        steps[a][b] = steps[b][a] = 1
    for over in range(n):
        for a in range(n):
            for b in range(n):
                steps[a][b] = min(steps[a][b], steps[a][over] + steps[over][b])
    return steps


def every_tree(n):
    """The roads of every tree of the places 0 to n - 1, n being 3 or more."""
    found = []
    for code in product(range(n), repeat=n - 2):
        lacking = [1 + code.count(place) for place in range(n)]
        roads = []
        for place in code:
            leaf = lacking.index(1)
            roads.append((min(leaf, place), max(leaf, place)))
            lacking[leaf] -= 1
            lacking[place] -= 1
        roads.append(tuple([place for place in range(n) if lacking[place] == 1]))
        found.append(tuple(sorted(roads)))
    return found


def every_web(n):
    """All webs of n places each road of which bears 1."""
    pairs = [(a, b) for a in range(n) for b in range(a + 1, n)]
    found = []
    for many in range(n - 1, len(pairs) + 1):
        for roads in combinations(pairs, many):
            if 99 not in least_steps((n, roads, ()))[0]:
                found.append((n, roads, (1,) * many))
    return found


def web_of(n, roads, most=1):
    """The web of these roads, given in any order, each bearing most."""
    return (n, tuple(sorted([(min(a, b), max(a, b)) for a, b in roads])), (most,) * len(roads))


def mixed(n, many):
    """So many unlike-looking orders of the places 0 to n - 1."""
    dice = Random(n)
    return [tuple(dice.sample(range(n), n)) for _ in range(many)]


def wandered(web, standing, many, seed):
    """A way of at most so many deeds that wanders about."""
    dice = Random(seed)
    way = []
    loads = list(standing)
    while len(way) < many:
        sums = [sum([loads[k] for k, ends in enumerate(web[1]) if x in ends]) for x in range(web[0])]
        fit = [(k, by) for k, (a, b) in enumerate(web[1]) for by in (1, -1)
               if sums[a] != sums[b] and 0 <= loads[k] + by <= web[2][k]]
        if not fit:
            break
        road, by = dice.choice(fit)
        loads[road] += by
        way.append((road, by))
    return tuple(way), tuple(loads)


def sides(web):
    """The two sides of a tree: beginning with place 0, each neighbour of a place is put on the other one."""
    side = {0: 0}
    while len(side) < web[0]:
        for a, b in web[1]:
            for x, y in ((a, b), (b, a)):
                if x in side:
                    side[y] = 1 - side[x]
    return [x for x in side if side[x] == 0], [x for x in side if side[x] == 1]


def has(web):
    """How many roads each place has."""
    return [len([ends for ends in web[1] if x in ends]) for x in range(web[0])]


def is_parted(web):
    """Whether the web is a tree with a side of which each place has two roads."""
    if len(web[1]) != web[0] - 1:
        return False
    return any([all([has(web)[x] == 2 for x in side]) for side in sides(web)])
