"""Standings of a class that have a wish, and which loads a road bears in a class."""

from unevenroads.kinds import row_roads
from unevenroads.sorts import sort_of
from unevenroads.wallrows import near_standings

# So many free roads are laid or bare in more ways than there are even and near standings in a web with an elder tree.
ENOUGH = 5


def wished(web, standing, wish):
    """A standing that is joined to this one and has the wish; None if there is none."""
    if _has(standing, wish):
        return standing
    sort = sort_of(web, standing)
    if sort == ("even",):
        return None
    if sort[0] == "walls":
        return _wished_in_row(web, wish, sort[1])
    candidates = near_standings(web) if sort == ("near",) else _some_with(wish)
    for other in candidates:
        if _has(other, wish) and sort_of(web, other) == sort:
            return other
    return None


def _has(standing, wish):
    """Whether the standing has the wish."""
    return all([want is None or load == want for load, want in zip(standing, wish)])


def _some_with(wish):
    """Standings with the wish, enough of them that one is of the sort ("rest",) if any is.

    If two standings are unlike on one road alone, and there are three places or more, they are not both even.
    """
    free = [road for road, want in enumerate(wish) if want is None]
    found = [[0 if want is None else want for want in wish]]
    for road in free[:ENOUGH]:
        found.extend([loads[:road] + [1] + loads[road + 1:] for loads in list(found)])
    return [tuple(loads) for loads in found]


def _wished_in_row(web, wish, number):
    """A standing of a path or a ring with so many walls that has the wish; None if there is none."""
    roads = row_roads(web)
    wants = [wish[road] for road in roads]
    row = None
    if len(roads) < web[0]:
        # Ahead of a path, and behind it, it is as if bare roads went on.
        row = _with_changes(wants, 0, 0, number)
    else:
        for first in _loads_of(wants[0]):
            others = _with_changes(wants[1:], first, first, number)
            if row is None and others is not None:
                row = (first,) + others
    if row is None:
        return None
    loads = [0] * len(roads)
    for road, load in zip(roads, row):
        loads[road] = load
    return tuple(loads)


def _loads_of(want):
    """The loads, 0 or 1, that the item of a wish allows."""
    return (0, 1) if want is None else (want,)


def _with_changes(wants, start, end, number):
    """Loads that have the wants, such that start, these, and end change so often from one to the next; None if none."""
    # Of all beginnings that are alike in their last load and in how often they change one is kept.
    found = {(start, 0): ()}
    for want in wants:
        longer = {}
        for (load, changes), loads in list(found.items()):
            for fresh in _loads_of(want):
                key = (fresh, changes + abs(fresh - load))
                if key not in longer:
                    longer[key] = loads + (fresh,)
        found = longer
    for (load, changes), loads in found.items():
        if changes + abs(end - load) == number:
            return loads
    return None


def load_span(web, standing, road):
    """The least and the greatest load that the road bears in the class of the standing."""
    ahead = (None,) * road
    behind = (None,) * (len(web[1]) - road - 1)
    borne = range(web[2][road] + 1)
    loads = [load for load in borne if wished(web, standing, ahead + (load,) + behind) is not None]
    return (loads[0], loads[-1])
