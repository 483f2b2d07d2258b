"""Ways: deeds one behind another, each let by the standing that the ones ahead of it lead to."""

from unevenroads.deeds import deed_error, done
from unevenroads.errors import Unfit


def way_error(web, standing, value):
    """None if value is a way from the standing, otherwise the first thing that is wrong with it."""
    if not isinstance(value, tuple):
        return "form"
    reached = standing
    for place, deed in enumerate(value):
        error = deed_error(web, reached, deed)
        if error is not None:
            return (place, error)
        reached = done(web, reached, deed)
    return None


def end_of(web, standing, way):
    """The standing that a way leads to; Unfit if it is none."""
    return standings_along(web, standing, way)[-1]


def standings_along(web, standing, way):
    """All standings along a way, the first and the last one too; Unfit if it is none."""
    if not isinstance(way, tuple):
        raise Unfit()
    along = [standing]
    for deed in way:
        along.append(done(web, along[-1], deed))
    return tuple(along)


def turned(way):
    """The way that leads back: the contrary deeds, from the last one on."""
    return tuple([(road, -by) for road, by in way[::-1]])


def shortened(web, standing, way):
    """The way to the same end that leaves each standing as the way does when it leaves it for the last time."""
    along = standings_along(web, standing, way)
    last = {}
    for at, reached in enumerate(along):
        last[reached] = at
    kept = []
    place = last[standing]
    while place < len(way):
        kept.append(way[place])
        place = last[along[place + 1]]
    return tuple(kept)


def trodden(way):
    """For each road in the way the triple (road, how often it is laid, how often taken), ascending."""
    roads = sorted({road for road, _ in way})
    return tuple([(road, way.count((road, 1)), way.count((road, -1))) for road in roads])
