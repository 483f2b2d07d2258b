"""Pairings between which holes are passed on, and what can be dropped in them."""

from unevenroads.bounds import MAX_SEEN
from unevenroads.errors import TooMany, Unfit
from unevenroads.pairings import droppable, is_pairing, partners_of
from unevenroads.webs import roads_at, steps_from


def _check_pairing(web, standing):
    """Raises Unfit if the standing is no pairing."""
    if not is_pairing(web, standing):
        raise Unfit()


def _neighbours(web):
    """The neighbours of each place, ascending."""
    return [[x for x, _ in roads_at(web, place)] for place in range(web[0])]


def hole_walk(web, standing):
    """All pairings, ascending, to which steps lead from this one; Unfit if it is none."""
    _check_pairing(web, standing)
    reached = [standing]
    known = {standing: True}
    at = 0
    while at < len(reached):
        fresh = _one_step_on(web, reached[at])
        for pairing in fresh:
            if pairing not in known:
                known[pairing] = True
                reached.append(pairing)
        if len(reached) > MAX_SEEN:
            raise TooMany(MAX_SEEN)
        at += 1
    return tuple(sorted(reached))


def _one_step_on(web, pairing):
    """All pairings to which one step leads."""
    laid = {}
    for road, (a, b) in enumerate(web[1]):
        if pairing[road] == 1:
            laid[a] = road
            laid[b] = road
    found = []
    for road, (a, b) in enumerate(web[1]):
        if (a in laid) != (b in laid):
            loads = list(pairing)
            loads[road] = 1
            loads[laid[a] if a in laid else laid[b]] = 0
            found.append(tuple(loads))
    return found


def pairings(web, many):
    """All pairings of the web, ascending, with so many laid roads."""
    if many > web[0] // 2:
        return ()
    later = [[(x, road) for x, road in roads_at(web, place) if x > place] for place in range(web[0])]
    known = {}
    # Of each place it is told in turn whether it is paired with a later one: pairs (laid roads, ends of these).
    # Each one that is kept can be completed, in other ways than all others: so no more are kept than can be told.
    found = [((), 0)]
    for place in range(web[0]):
        found = [(roads, used) for choice in found for roads, used in _choices(later, place, choice)
                 if len(roads) <= many <= len(roads) + _greatest(later, place + 1, used, known)]
        if len(found) > MAX_SEEN:
            raise TooMany(MAX_SEEN)
    return tuple(sorted([tuple([1 if road in roads else 0 for road in range(len(web[1]))]) for roads, _ in found]))


def _choices(later, place, choice):
    """All choices that come of one if the place is paired with a later one, or with none."""
    roads, used = choice
    found = [choice]
    if not (used >> place) & 1:
        for x, road in later[place]:
            if not (used >> x) & 1:
                found.append((roads + (road,), used | (1 << place) | (1 << x)))
    return found


def _greatest(later, place, used, known):
    """How many pairs there can be of the places from this one on that are not used; known keeps answers."""
    if place == len(later):
        return 0
    if (used >> place) & 1:
        return _greatest(later, place + 1, used, known)
    key = (place, used >> place)
    if key not in known:
        best = _greatest(later, place + 1, used, known)
        for x, _ in later[place]:
            if not (used >> x) & 1:
                best = max(best, 1 + _greatest(later, place + 1, used | (1 << x), known))
        known[key] = best
    return known[key]


def nearest_pairs(web, standing):
    """The triple (steps, road, further) of two pairs that are nearest to one another; None if there are not two."""
    _check_pairing(web, standing)
    laid = [road for road, load in enumerate(standing) if load == 1]
    steps = [steps_from(web, place) for place in range(web[0])]
    found = []
    for road in laid:
        for further in laid:
            if road < further:
                found.append((min([steps[a][b] for a in web[1][road] for b in web[1][further]]), road, further))
    if not found:
        return None
    return min(found)


def may_drop(web, standing):
    """All triples (place, hole, other), ascending, for which a pair can be dropped."""
    _check_pairing(web, standing)
    return tuple(droppable(_neighbours(web), partners_of(web, standing)))


def is_stubborn(web, standing):
    """Whether there are two pairs or more, and a hole, and nothing can be dropped wherever holes are passed on to."""
    walked = hole_walk(web, standing)
    if sum(standing) < 2 or 2 * sum(standing) == web[0]:
        return False
    beside = _neighbours(web)
    return all([not droppable(beside, partners_of(web, pairing)) for pairing in walked])
