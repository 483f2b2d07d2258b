"""Kinds of webs, and the places of paths and rings in their order."""

from unevenroads.errors import Unfit
from unevenroads.parted import has_elder, is_tree
from unevenroads.webs import road_between, road_counts, roads_at


def is_path(web):
    """Whether the web is a path, whatever its roads bear."""
    return is_tree(web) and max(road_counts(web)) <= 2


def is_ring(web):
    """Whether the web is a ring, whatever its roads bear."""
    return all([many == 2 for many in road_counts(web)])


def kind_of(web):
    """The word for the kind of the web: the first of seven that applies."""
    n, _, most = web
    if n == 2:
        return "pair"
    if max(most) >= 2:
        return "wide"
    if n <= 4:
        return "small"
    if is_path(web):
        return "path"
    if is_ring(web):
        return "ring"
    if has_elder(web):
        return "parted"
    return "meeting"


def row_of(web):
    """The places of a path or a ring in their order; Unfit for other webs."""
    if is_path(web):
        row = [road_counts(web).index(1)]
    elif is_ring(web):
        row = [0]
    else:
        raise Unfit()
    while len(row) < web[0]:
        # Of the two neighbours of place 0 in a ring the lesser one is told first.
        fresh = [place for place, _ in roads_at(web, row[-1]) if place not in row]
        row.append(fresh[0])
    return tuple(row)


def row_roads(web):
    """Which road of a path or a ring each of its row roads is; Unfit for other webs."""
    row = row_of(web)
    return [road_between(web, row[i], row[(i + 1) % len(row)]) for i in range(len(web[1]))]
