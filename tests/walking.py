"""Ways gone deed by deed, and classes found by doing all deeds: by sums that are made here."""

from itertools import combinations
from random import Random

from tests.samples import SMALL_WEBS, every_standing, every_tree, every_web, mixed, web_of
from unevenroads.kinds import row_of
from unevenroads.renamed import renamed_web
from unevenroads.shapes import board_web, full_web, path_web, ring_web


def place_sums(web, standing):
    """The sums of all places."""
    return [sum([load for ends, load in zip(web[1], standing) if place in ends]) for place in range(web[0])]


def fault_along(web, standing, way):
    """Goes the way deed by deed: the standing at its end, or a text that tells which deed is not let."""
    if not isinstance(way, tuple):
        return "no tuple"
    loads = list(standing)
    sums = place_sums(web, standing)
    for place, deed in enumerate(way):
        if not isinstance(deed, tuple) or [type(item) for item in deed] != [int, int] or deed[1] not in (1, -1):
            return "no deed at " + str(place)
        road, by = deed
        if not 0 <= road < len(loads):
            return "no road at " + str(place)
        a, b = web[1][road]
        loads[road] += by
        if sums[a] == sums[b] or not 0 <= loads[road] <= web[2][road]:
            return "not let at " + str(place)
        sums[a] += by
        sums[b] += by
    return tuple(loads)


def neighbours_of(web, standing):
    """All standings to which one deed leads."""
    sums = place_sums(web, standing)
    found = []
    for road, (a, b) in enumerate(web[1]):
        for load in (standing[road] - 1, standing[road] + 1):
            if sums[a] != sums[b] and 0 <= load <= web[2][road]:
                found.append(standing[:road] + (load,) + standing[road + 1:])
    return found


def all_classes(web):
    """The classes of a web, each a list of standings, found by doing all deeds."""
    known = set()
    found = []
    for standing in every_standing(web):
        if standing not in known:
            known.add(standing)
            reached = [standing]
            for one in reached:
                for other in neighbours_of(web, one):
                    if other not in known:
                        known.add(other)
                        reached.append(other)
            found.append(reached)
    return found


def is_even_here(web, standing):
    """Whether all places have one sum."""
    return len(set(place_sums(web, standing))) == 1


def some_tree(dice, n, back):
    """The roads of a tree of the places 0 to n - 1, each place joined to one of the last so many ahead of it."""
    return [(dice.randrange(max(0, place - back), place), place) for place in range(1, n)]


def some_parted(dice, spots):
    """A web, with its places in any order, that comes of an elder tree with so many spots, each road bearing 1.

    With four spots or more, some of these has three roads.
    """
    tree = some_tree(dice, spots, dice.choice((1, 2, 9)))
    if spots > 3:
        tree = [(0, 1), (0, 2), (0, 3)] + tree[3:]
    roads = []
    for j, (a, b) in enumerate(tree):
        roads.extend([(a, spots + j), (b, spots + j)])
    web = web_of(2 * spots - 1, roads)
    return renamed_web(web, tuple(dice.sample(range(web[0]), web[0])))[0]


def some_web(dice, n, further):
    """A tree and so many further roads, the places in any order, each road bearing 1."""
    roads = set(some_tree(dice, n, dice.choice((1, 2, 3, n))))
    pairs = [pair for pair in combinations(range(n), 2) if pair not in roads]
    web = web_of(n, sorted(roads) + dice.sample(pairs, min(further, len(pairs), 40 - len(roads))))
    return renamed_web(web, tuple(dice.sample(range(n), n)))[0]


def bearing(web, dice, greatest):
    """The web with other bounds, each drawn from 1 to greatest."""
    return web[:2] + (tuple([dice.randint(1, greatest) for _ in web[1]]),)


def with_bound(web, road, bears):
    """The web, this road of which bears so much."""
    return web[:2] + (web[2][:road] + (bears,) + web[2][road + 1:],)


def some_pairing(web, dice, many):
    """A pairing of at most so many pairs, drawn road by road."""
    loads = [0] * len(web[1])
    used = set()
    for road in dice.sample(range(len(loads)), len(loads)):
        a, b = web[1][road]
        if a not in used and b not in used and sum(loads) < many:
            loads[road] = 1
            used.update((a, b))
    return tuple(loads)


def some_standing(web, dice):
    """A standing with drawn loads."""
    return tuple([dice.randint(0, bears) for bears in web[2]])


def great_webs():
    """Webs of as many places, and of as many roads, as there may be, each road bearing 9."""
    dice = Random(40)
    found = [path_web(24, 9), ring_web(24, 9), board_web(5, 8, 9), board_web(4, 10, 9), board_web(1, 23, 9),
             full_web(9, 9)]
    for further in (1, 5, 17, 17):
        found.append(some_web(dice, 24, further)[:2] + ((9,) * (23 + further),))
    found.append(some_parted(dice, 12)[:2] + ((9,) * 22,))
    return found


def small_rows():
    """Paths and rings of five to eight places, each road bearing 1, with their places in some orders."""
    found = []
    for n in (5, 6, 7, 8):
        for web in (path_web(n, 1), ring_web(n, 1)):
            found.append(web)
            found.extend([renamed_web(web, names)[0] for names in mixed(n, 2)])
    return found


def long_rows():
    """Paths and rings of five to twenty-four places, each road bearing 1, with their places in any order."""
    dice = Random(24)
    found = []
    for n in range(5, 25):
        for web in (path_web(n, 1), ring_web(n, 1)):
            found.append(renamed_web(web, tuple(dice.sample(range(n), n)))[0])
    return found


def parted_by(web, walls, first):
    """The standing of a path or a ring with these walls; in a ring, with the load first on the first row road."""
    row = row_of(web)
    ring = len(web[1]) == web[0]
    load = first if ring else 0
    loads = [0] * len(web[1])
    for i in range(len(web[1])):
        if i in walls and not (ring and i == 0):
            load = 1 - load
        loads[web[1].index(tuple(sorted((row[i], row[(i + 1) % web[0]]))))] = load
    return tuple(loads)


def let_here(web, standing):
    """All pairs (deed, standing behind it) of deeds that are let, ascending."""
    sums = place_sums(web, standing)
    found = []
    for road, (a, b) in enumerate(web[1]):
        for by in (-1, 1):
            if sums[a] != sums[b] and 0 <= standing[road] + by <= web[2][road]:
                found.append(((road, by), standing[:road] + (standing[road] + by,) + standing[road + 1:]))
    return found


def distances(web, standing, closed=()):
    """By how few deeds, none of them on a closed road, each standing can be come to."""
    told = {standing: 0}
    reached = [standing]
    for one in reached:
        for (road, _), other in let_here(web, one):
            if road not in closed and other not in told:
                told[other] = told[one] + 1
                reached.append(other)
    return told


# A ring of wide roads of which just 2000 standings are uneven: 5 * 5 * 9 * 9 in all, 25 of them even.
CLASS_2000 = (4, ((0, 1), (0, 3), (1, 2), (2, 3)), (4, 4, 8, 8))
# The next greater class of such a row: 2016 standings of a tree with just one even one.
CLASS_2015 = (5, ((0, 1), (0, 2), (0, 3), (0, 4)), (3, 6, 7, 8))
CLASS_300 = (4, ((0, 1), (0, 3), (1, 2), (2, 3)), (2, 4, 6, 2))
CLASS_40 = (3, ((0, 1), (0, 2), (1, 2)), (1, 2, 6))
CLASS_41 = (3, ((0, 1), (1, 2)), (5, 6))


def some_small_webs():
    """Small webs of all kinds, bearing 1 or more, with some standings each at most."""
    webs = SMALL_WEBS[:8] + SMALL_WEBS[9:] + [web for n in (2, 3, 4) for web in every_web(n)] + every_web(5)[5::60]
    webs.extend([bearing(web, Random(at), 2) for at, web in enumerate(every_web(4)[::3])])
    webs.extend([web_of(n, roads) for n, step in ((5, 20), (6, 200)) for roads in every_tree(n)[::step]])
    return webs + small_rows()[:4]
