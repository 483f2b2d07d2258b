"""Two webs put together: at a place, or by a road."""

from unevenroads.bounds import MAX_PLACES, MAX_ROADS
from unevenroads.errors import Unfit


def joint(one, other, a, b):
    """The web of both, the place b of other put onto a of one, and which road each road of other becomes.

    Raises Unfit if there are too many places or roads.
    """
    n = one[0]
    names = [n + x if x < b else n + x - 1 for x in range(other[0])]
    names[b] = a
    roads = _named(other, names)
    web = _made(n + other[0] - 1, list(zip(one[1], one[2])) + roads)
    return web, tuple([web[1].index(ends) for ends, _ in roads])


def bridged(one, other, a, b, most):
    """The web of both with a road, which bears most, from a of one to b of other, and this road; Unfit likewise."""
    n = one[0]
    bridge = (a, n + b)
    roads = _named(other, [n + x for x in range(other[0])])
    web = _made(n + other[0], list(zip(one[1], one[2])) + roads + [(bridge, most)])
    return web, web[1].index(bridge)


def _named(web, names):
    """The roads of the web with new names for their ends, as pairs (ends, what the road bears)."""
    named = [(min(names[a], names[b]), max(names[a], names[b])) for a, b in web[1]]
    return list(zip(named, web[2]))


def _made(n, roads):
    """The web of n places and these pairs (ends, what the road bears); Unfit if there are too many."""
    if n > MAX_PLACES or len(roads) > MAX_ROADS:
        raise Unfit()
    in_order = sorted(roads)
    return (n, tuple([ends for ends, _ in in_order]), tuple([bears for _, bears in in_order]))
