"""The standings of classes of walls, and near standings, by their numbers."""

from math import comb

from unevenroads.classes import counted_size
from unevenroads.errors import Unfit
from unevenroads.kinds import kind_of, row_roads
from unevenroads.leading import near_pairing
from unevenroads.parted import elder_tree
from unevenroads.sorts import sort_of
from unevenroads.values import is_from_to
from unevenroads.walls import walls_of
from unevenroads.webs import road_between


def standing_at(web, sort, value):
    """The standing of the class sort with the number value; Unfit if there is none, or sort is not numbered."""
    size = counted_size(web, sort)
    if size is None or not is_from_to(value, 0, size - 1):
        raise Unfit()
    if sort == ("near",):
        return near_standings(web)[value]
    if kind_of(web) == "path":
        walls = _chosen(web[0], sort[1], value)
        return _parted_by(web, walls, 1 if 0 in walls else 0)
    return _parted_by(web, _chosen(web[0], sort[1], value // 2), value % 2)


def number_of(web, standing):
    """The number of the standing in its class; Unfit if this is not numbered."""
    sort = sort_of(web, standing)
    if counted_size(web, sort) is None:
        raise Unfit()
    if sort == ("near",):
        return near_standings(web).index(standing)
    number = _number_of_chosen(web[0], walls_of(web, standing))
    if kind_of(web) == "path":
        return number
    return 2 * number + standing[row_roads(web)[0]]


def _chosen(n, k, number):
    """The choice of k of the numbers below n, ascending, that has this number among all such choices."""
    chosen = []
    for x in range(n):
        with_x = comb(n - 1 - x, k - len(chosen) - 1) if len(chosen) < k else 0
        if number < with_x:
            chosen.append(x)
        else:
            number -= with_x
    return chosen


def _number_of_chosen(n, chosen):
    """The number of a choice of numbers below n, ascending, among all such choices of as many."""
    number = 0
    taken = 0
    for x in range(n):
        if x in chosen:
            taken += 1
        elif taken < len(chosen):
            number += comb(n - 1 - x, len(chosen) - taken - 1)
    return number


def _parted_by(web, walls, first):
    """The standing with these walls in which the first row road has the load first."""
    loads = [0] * len(web[1])
    load = first
    for i, road in enumerate(row_roads(web)):
        if i in walls and i > 0:
            load = 1 - load
        loads[road] = load
    return tuple(loads)


def near_standings(web):
    """All near standings, ascending: those with a hole, and those in which a middle has both roads laid."""
    spots, tree = elder_tree(web)
    found = [near_pairing(web, spot) for spot in spots]
    for a, _, middle in tree:
        # With the hole at one spot beside it, the middle is the partner of the other one.
        loads = list(near_pairing(web, a))
        loads[road_between(web, a, middle)] = 1
        found.append(tuple(loads))
    return sorted(found)
