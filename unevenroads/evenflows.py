"""Even standings of webs with two sides, or papers that there is none, by loads that flow from side to side."""

from unevenroads.errors import Unfit
from unevenroads.parted import sides_of
from unevenroads.values import is_from_to, is_tuple_of
from unevenroads.webs import roads_at


def _sides(web, total):
    """Both sides of the web; Unfit if it has not two, or total is below 0."""
    near, far = sides_of(web)
    if total < 0 or any([(a in near) == (b in near) for a, b in web[1]]):
        raise Unfit()
    return near, far


def even_with(web, total):
    """An even standing with total; None if there is none."""
    near, far = _sides(web, total)
    loads, lot = _filled(web, near, total)
    if lot or total > 0 and len(near) != len(far):
        return None
    return tuple(loads)


def lack_paper(web, total):
    """A paper that there is no even standing with total; None if there is one."""
    near, far = _sides(web, total)
    if total > 0 and len(near) != len(far):
        return ("sides",)
    _, lot = _filled(web, near, total)
    if not lot:
        return None
    return ("few", tuple(lot))


def lack_holds(web, total, value):
    """Whether value is a paper that there is no even standing with total."""
    near, far = _sides(web, total)
    if value == ("sides",):
        return total > 0 and len(near) != len(far)
    if not is_tuple_of(value, 2) or value[0] != "few" or not _is_lot(web, value[1]):
        return False
    lot = value[1]
    for side, others in ((near, far), (far, near)):
        if all([place in side for place in lot]):
            return total * len(lot) > sum([min(total, _borne_to(web, lot, place)) for place in others])
    return False


def _is_lot(web, value):
    """Whether value is an ascending tuple of one place or more."""
    if not isinstance(value, tuple) or not value or not all([is_from_to(place, 0, web[0] - 1) for place in value]):
        return False
    return all([place < further for place, further in zip(value, value[1:])])


def _borne_to(web, lot, place):
    """What the roads from the place to places of the lot bear together."""
    return sum([web[2][road] for neighbour, road in roads_at(web, place) if neighbour in lot])


def _filled(web, near, total):
    """Loads, as many as can be, such that no sum is above total, and a lot of places of the side near.

    The lot is empty if all these places have the sum total. Otherwise it has those that could get one load more if
    there were room on the other side, perhaps if some loads were shifted: all the room that they find there is full.
    """
    loads = [0] * len(web[1])
    lacks = [total] * web[0]
    while True:
        behind = {place: None for place in near if lacks[place] > 0}
        end = _place_with_room(web, near, loads, lacks, behind)
        if end is None:
            return loads, [place for place in near if place in behind]
        lacks[end] -= 1
        while behind[end] is not None:
            end, road, by = behind[end]
            loads[road] += by
        lacks[end] -= 1


def _place_with_room(web, near, loads, lacks, behind):
    """A place of the other side that lacks a load and can get one from places in behind; None if there is none.

    For each place that is come to, it puts into behind the place ahead of it, the road between, and 1 if a load is
    laid there, on the way to the other side, or -1 if one is taken, on the way back.
    """
    reached = list(behind)
    at = 0
    while at < len(reached):
        place = reached[at]
        at += 1
        by = 1 if place in near else -1
        if by == -1 and lacks[place] > 0:
            return place
        for further, road in roads_at(web, place):
            if further not in behind and 0 <= loads[road] + by <= web[2][road]:
                behind[further] = (place, road, by)
                reached.append(further)
    return None
