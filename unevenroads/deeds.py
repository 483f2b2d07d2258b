"""Deeds: one load laid on a road, or taken from it, while its ends have unlike sums."""

from unevenroads.errors import Unfit
from unevenroads.standings import sums_of, unlike_roads
from unevenroads.values import is_integer, is_tuple_of


def deed_error(web, standing, value):
    """None if value is a deed that the standing lets, otherwise the first thing that is wrong with it."""
    if not is_tuple_of(value, 2):
        return "form"
    road, by = value
    if not is_integer(road) or not is_integer(by):
        return "form"
    if not 0 <= road < len(web[1]):
        return "road"
    if by not in (1, -1):
        return "by"
    sums = sums_of(web, standing)
    a, b = web[1][road]
    if sums[a] == sums[b]:
        return "alike"
    if not _has_room(web, standing, road, by):
        return "room"
    return None


def _has_room(web, standing, road, by):
    """Whether the road can bear its load and by together."""
    return 0 <= standing[road] + by <= web[2][road]


def let_deeds(web, standing):
    """All deeds, ascending, that the standing lets."""
    unlike = unlike_roads(web, standing)
    return tuple([(road, by) for road in unlike for by in (-1, 1) if _has_room(web, standing, road, by)])


def done(web, standing, deed):
    """The standing behind a deed; Unfit if the standing does not let it."""
    if deed_error(web, standing, deed) is not None:
        raise Unfit()
    road, by = deed
    return standing[:road] + (standing[road] + by,) + standing[road + 1:]
