"""Ways that do no deed on closed roads."""

from unevenroads.bounds import MAX_SEEN
from unevenroads.reaches import reach, way_to


def closed_way(web, one, other, closed):
    """A way from one to the other with no deed on a closed road; None if there is none."""
    reached = reach(web, one, closed, MAX_SEEN)
    if other not in reached:
        return None
    return way_to(reached, other)
