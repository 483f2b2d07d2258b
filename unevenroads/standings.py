"""Standings: a load on each road of a web, and the sums of the places."""

from unevenroads.values import is_from_to, is_tuple_of


def standing_error(web, value):
    """None if value is a standing of web, otherwise the first thing that is wrong with it."""
    most = web[2]
    if not is_tuple_of(value, len(most)):
        return "form"
    for place, load in enumerate(value):
        if not is_from_to(load, 0, most[place]):
            return ("load", place)
    return None


def sums_of(web, standing):
    """For each place the sum of the loads on its roads."""
    sums = [0] * web[0]
    for road, (a, b) in enumerate(web[1]):
        sums[a] += standing[road]
        sums[b] += standing[road]
    return tuple(sums)


def is_even(web, standing):
    """Whether all places have one sum."""
    sums = sums_of(web, standing)
    return min(sums) == max(sums)


def unlike_roads(web, standing):
    """The roads, ascending, whose two ends have unlike sums."""
    sums = sums_of(web, standing)
    return tuple([road for road, (a, b) in enumerate(web[1]) if sums[a] != sums[b]])
