"""Even standings: those in which all places have one sum."""

from unevenroads.bounds import MAX_SEEN
from unevenroads.errors import TooMany
from unevenroads.kinds import is_ring, row_roads
from unevenroads.parted import is_tree
from unevenroads.standings import sums_of
from unevenroads.webs import roads_at


def even_sums(web):
    """The pairs (total, number of even standings with it), ascending, of all totals with which there is one."""
    numbers = {}
    for total, _ in _evens(web):
        numbers[total] = numbers.get(total, 0) + 1
    return tuple([(total, numbers[total]) for total in sorted(numbers)])


def even_count(web):
    """How many even standings there are."""
    return len(_evens(web))


def least_even(web, total):
    """The least even standing with total; None if there is none."""
    found = [standing for own, standing in _evens(web) if own == total]
    if not found:
        return None
    return min(found)


def many_standings(web):
    """How many standings the web has."""
    many = 1
    for bears in web[2]:
        many *= bears + 1
    return many


def _evens(web):
    """All pairs (total, even standing with it); TooMany if there are too many standings to go through."""
    if is_tree(web):
        told = _in_tree(web)
    elif is_ring(web):
        told = _in_ring(web)
    elif many_standings(web) > MAX_SEEN:
        raise TooMany(MAX_SEEN)
    else:
        told = _all_standings(web)
    found = []
    for standing in told:
        sums = sums_of(web, standing)
        if min(sums) == max(sums):
            found.append((sums[0], standing))
    return found


def _all_standings(web):
    """All standings of the web."""
    told = [()]
    for bears in web[2]:
        told = [ahead + (load,) for ahead in told for load in range(bears + 1)]
    return told


def _if_borne(web, loads):
    """A list of the standing of these loads; an empty one if some road does not bear its load."""
    if all([0 <= load <= bears for load, bears in zip(loads, web[2])]):
        return [tuple(loads)]
    return []


def _in_tree(web):
    """For each total the one standing of a tree that can be even with it, if the roads bear it."""
    inwards = _inwards(web)
    told = []
    for total in range(max(web[2]) + 1):
        lacks = [total] * web[0]
        loads = [0] * len(web[1])
        for place, further, road in inwards:
            loads[road] = lacks[place]
            lacks[further] -= lacks[place]
        told.extend(_if_borne(web, loads))
    return told


def _inwards(web):
    """All roads of a tree as triples (place, further, road), each place behind those that are further out."""
    outwards = []
    reached = [0]
    at = 0
    while at < len(reached):
        inner = reached[at]
        at += 1
        for place, road in roads_at(web, inner):
            if place not in reached:
                outwards.append((place, inner, road))
                reached.append(place)
    return outwards[::-1]


def _in_ring(web):
    """The standings of a ring in which each second road of the row bears alike."""
    ring = row_roads(web)
    told = []
    for first in range(max(web[2]) + 1):
        for second in range(max(web[2]) + 1):
            loads = [0] * len(ring)
            for i, road in enumerate(ring):
                loads[road] = second if i % 2 == 1 else first
            told.extend(_if_borne(web, loads))
    return told
