"""Standings that are come to by deeds, nearest ones first."""

from unevenroads.deeds import let_deeds
from unevenroads.errors import TooMany


def let_ends(web, standing):
    """All pairs (deed, standing behind it), ascending, of deeds that the standing lets."""
    told = []
    for road, by in let_deeds(web, standing):
        further = standing[:road] + (standing[road] + by,) + standing[road + 1:]
        told.append(((road, by), further))
    return told


def reach(web, standing, closed, limit):
    """All standings that can be come to from this one with no deed on a closed road, those by fewer deeds ahead.

    A dict: of each standing the pair (standing ahead of it, deed) by which it is come to first, None of this one.
    Raises TooMany(limit) if there are more than limit.
    """
    ahead = {standing: None}
    reached = [standing]
    at = 0
    while at < len(reached):
        here = reached[at]
        at += 1
        for deed, further in let_ends(web, here):
            if deed[0] not in closed and further not in ahead:
                ahead[further] = (here, deed)
                reached.append(further)
        if len(reached) > limit:
            raise TooMany(limit)
    return ahead


def way_to(ahead, end):
    """The way with the fewest deeds to the end, ahead being what reach tells."""
    deeds = []
    while ahead[end] is not None:
        end, deed = ahead[end]
        deeds.append(deed)
    return tuple(deeds[::-1])
