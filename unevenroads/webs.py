"""Webs: places, the roads between them, and how many loads each road bears."""

from unevenroads.bounds import MAX_LOAD, MAX_PLACES, MAX_ROADS
from unevenroads.values import is_from_to, is_tuple_of


def web_error(value):
    """None if value is a web, otherwise the first thing that is wrong with it."""
    if not is_tuple_of(value, 3):
        return "form"
    n, roads, most = value
    if not isinstance(roads, tuple) or not isinstance(most, tuple):
        return "form"
    if not is_from_to(n, 2, MAX_PLACES):
        return "size"
    error = _roads_error(n, roads)
    if error is None:
        error = _most_error(roads, most)
    if error is None and None in _steps_over(n, roads, 0):
        return "apart"
    return error


def _roads_error(n, roads):
    """The first thing that is wrong with the roads between n places, None if nothing is."""
    if not 1 <= len(roads) <= MAX_ROADS:
        return "roads"
    for place, road in enumerate(roads):
        if not _is_road(n, road):
            return ("road", place)
    for place in range(1, len(roads)):
        if roads[place] <= roads[place - 1]:
            return ("order", place)
    return None


def _is_road(n, value):
    """Whether value is a pair of two of n places, the lesser one ahead."""
    if not is_tuple_of(value, 2):
        return False
    a, b = value
    return is_from_to(a, 0, n - 1) and is_from_to(b, 0, n - 1) and a < b


def _most_error(roads, most):
    """The first thing that is wrong with what the roads bear, None if nothing is."""
    if len(most) != len(roads):
        return "bounds"
    for place, bears in enumerate(most):
        if not is_from_to(bears, 1, MAX_LOAD):
            return ("bound", place)
    return None


def _steps_over(n, roads, place):
    """The steps from place to each of n places, None where the roads do not lead."""
    steps = [None] * n
    steps[place] = 0
    many = 0
    while many in steps:
        for a, b in roads:
            if steps[a] == many and steps[b] is None:
                steps[b] = many + 1
            elif steps[b] == many and steps[a] is None:
                steps[a] = many + 1
        many += 1
    return steps


def roads_at(web, place):
    """The ascending pairs (neighbour, road) of the roads that have place as an end."""
    found = []
    for road, (a, b) in enumerate(web[1]):
        if a == place:
            found.append((b, road))
        elif b == place:
            found.append((a, road))
    return tuple(sorted(found))


def road_between(web, a, b):
    """The road with the ends a and b, in either order; None if there is none."""
    for place, road in roads_at(web, a):
        if place == b:
            return road
    return None


def road_counts(web):
    """How many roads each place has."""
    return tuple([len(roads_at(web, place)) for place in range(web[0])])


def steps_from(web, place):
    """The least number of roads by which one comes from place to each place."""
    return tuple(_steps_over(web[0], web[1], place))
