"""Trees that come of an elder tree by a place put into the middle of each of its roads."""

from unevenroads.bounds import MAX_PLACES
from unevenroads.errors import Unfit
from unevenroads.webs import road_counts, roads_at, steps_from, web_error


def sides_of(web):
    """The places at an even number of steps from the place 0, and all others, both ascending."""
    near = []
    far = []
    for place, steps in enumerate(steps_from(web, 0)):
        if steps % 2 == 0:
            near.append(place)
        else:
            far.append(place)
    return near, far


def is_tree(web):
    """Whether the web has one road less than places."""
    return len(web[1]) == web[0] - 1


def has_elder(web):
    """Whether the web comes of an elder tree."""
    return _spots_and_middles(web) is not None


def elder_tree(web):
    """The pair (spots, tree) of the elder tree of which the web comes; Unfit if there is none."""
    found = _spots_and_middles(web)
    if found is None:
        raise Unfit()
    spots, middles = found
    tree = []
    for middle in middles:
        a, b = [spot for spot, _ in roads_at(web, middle)]
        tree.append((a, b, middle))
    return tuple(spots), tuple(sorted(tree))


def _spots_and_middles(web):
    """The two sides of a tree, that of which each place has two roads last; None if there is no such side."""
    if not is_tree(web):
        return None
    counts = road_counts(web)
    near, far = sides_of(web)
    for spots, middles in ((near, far), (far, near)):
        if all([counts[middle] == 2 for middle in middles]):
            return spots, middles
    return None


def parted_web(s, tree):
    """The web whose elder tree has the spots 0 to s - 1 and these roads; Unfit if that is none, or too great."""
    elder = (s, tree, (1,) * len(tree))
    if web_error(elder) is not None or not is_tree(elder) or len(tree) < 2:
        raise Unfit()
    if 2 * s - 1 > MAX_PLACES:
        raise Unfit()
    roads = []
    for j, (a, b) in enumerate(tree):
        roads.extend([(a, s + j), (b, s + j)])
    return (2 * s - 1, tuple(sorted(roads)), (1,) * len(roads))
