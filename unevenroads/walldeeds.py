"""The fewest deeds between standings of paths and rings: told by their walls, no standings being gone through."""

from unevenroads.joining import joined
from unevenroads.kinds import row_roads
from unevenroads.walls import walls_of


def wall_deeds(web, one, other):
    """The steps from one to the other, None if they are not joined; Unfit if the web has no walls."""
    moves = _moves(web, one, other)
    if moves is None:
        return None
    return _length(moves)


def wall_way(web, one, other):
    """A way from one to the other with so many deeds, None if they are not joined; Unfit if the web has no walls."""
    moves = _moves(web, one, other)
    if moves is None:
        return None
    roads = row_roads(web)
    loads = list(one)
    deeds = []
    for i in _trodden_roads(web[0], moves):
        road = roads[i]
        by = 1 - 2 * loads[road]
        loads[road] += by
        deeds.append((road, by))
    return tuple(deeds)


def _moves(web, one, other):
    """Pairs (wall, where it goes) for all walls of one, by the fewest deeds; None if both are not joined.

    In a ring of n places i + n, i + 2 * n and so on stand for the place i of the row as well, and so does i - n.
    """
    walls = walls_of(web, one)
    goals = walls_of(web, other)
    if not joined(web, one, other):
        return None
    if len(web[1]) < web[0] or not walls:
        return list(zip(walls, goals))
    roads = row_roads(web)
    odd = 0 if one[roads[walls[0]]] == other[roads[goals[0]]] else 1
    plans = []
    # There is an even number of walls. If s goes beyond this, either way, all walls only have to go further.
    for s in range(odd - len(walls) - 2, len(walls) + 2, 2):
        plans.append(list(zip(walls, _gone_on(goals, web[0], s))))
    lengths = [_length(plan) for plan in plans]
    return plans[lengths.index(min(lengths))]


def _gone_on(goals, n, s):
    """The goals s, s + 1, .. of a ring of n places: behind the last one the first one comes again, n further."""
    many = len(goals)
    return [goals[k % many] + n * (k // many) for k in range(s, s + many)]


def _length(moves):
    """By how many places all walls go together."""
    return sum([abs(goal - wall) for wall, goal in moves])


def _trodden_roads(n, moves):
    """The row roads over which walls go to their goals, one behind another, so that no wall comes onto another one.

    Some wall that is not yet where it goes can always go on: the one ahead of it goes the same way, or makes room.
    """
    at = [wall for wall, _ in moves]
    trodden = []
    left = _length(moves)
    while len(trodden) < left:
        taken = [place % n for place in at]
        for k, (_, goal) in enumerate(moves):
            if goal > at[k] and (at[k] + 1) % n not in taken:
                trodden.append(at[k] % n)
                at[k] += 1
            elif goal < at[k] and (at[k] - 1) % n not in taken:
                at[k] -= 1
                trodden.append(at[k] % n)
            taken[k] = at[k] % n
    return trodden
