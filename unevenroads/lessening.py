"""The fewest loads of the standings that are joined to one, and ways to fewer loads."""

from unevenroads.drops import drop_some_pair
from unevenroads.kinds import is_path, is_ring
from unevenroads.parted import elder_tree, has_elder
from unevenroads.sorts import sort_of
from unevenroads.walks import Walk
from unevenroads.wides import merge_two_pairs


def fewest(web, standing):
    """The least number of loads that a standing joined to this one has."""
    sort = sort_of(web, standing)
    if sort == ("even",):
        return sum(standing)
    if sort[0] == "walls":
        return sort[1] // 2
    if sort == ("near",):
        spots, _ = elder_tree(web)
        return len(spots) - 1
    return 1


def lessened(web, standing):
    """A way to a standing with fewer loads; None if there is none."""
    if sum(standing) == fewest(web, standing):
        return None
    walk = Walk(web, standing)
    lessen(walk)
    return tuple(walk.deeds)


def lessen(walk):
    """Leads a standing that has not the fewest loads to one with fewer."""
    laid = [walk.web[1][road] for road, load in enumerate(walk.loads) if load > 0]
    unlike = [(a, b) for a, b in laid if walk.totals[a] != walk.totals[b]]
    if unlike:
        a, b = unlike[0]
        walk.change(a, b, -1)
    elif max(walk.totals) > 1:
        _level(walk)
    elif _drops_nothing(walk):
        merge_two_pairs(walk)
    else:
        drop_some_pair(walk)


def _level(walk):
    """Takes loads at two neighbours of unlike sums, the greater one above 1; all laid roads have like ends."""
    totals = walk.totals
    ends = [(a, b) for road in walk.web[1] for a, b in (road, road[::-1]) if totals[a] > max(1, totals[b])]
    u, v = ends[0]
    walk.change(u, v, 1)
    w = [place for place in walk.laid_from(u) if place != v][0]
    walk.change(u, w, -1)
    if totals[v] == 1:
        # v had no load: now w has one less than its neighbours on laid roads.
        walk.change(w, walk.laid_from(w)[0], -1)
    else:
        x = [place for place in walk.laid_from(v) if place != u][0]
        walk.change(v, x, -1)
        walk.change(u, v, -1)


def _drops_nothing(walk):
    """Whether no pair can be dropped, wherever holes are passed to: one road has to bear two then."""
    if is_path(walk.web) or is_ring(walk.web):
        return True
    return has_elder(walk.web) and len(walk.holes()) == 1
