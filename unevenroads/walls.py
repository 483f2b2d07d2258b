"""Walls of paths and rings, and near standings of webs that have an elder tree: what no deed can change."""

from unevenroads.errors import Unfit
from unevenroads.kinds import row_of
from unevenroads.parted import elder_tree
from unevenroads.standings import sums_of


def walls_of(web, standing):
    """All i, ascending, such that the place i of the row has the sum 1; Unfit if the web has no walls."""
    if web[0] < 3 or max(web[2]) > 1:
        raise Unfit()
    sums = sums_of(web, standing)
    return tuple([i for i, place in enumerate(row_of(web)) if sums[place] == 1])


def is_near(web, standing):
    """Whether all places have the sum 1 but a spot with the sum 0, or a middle with 2; Unfit for other webs."""
    spots, _ = elder_tree(web)
    if max(web[2]) > 1:
        raise Unfit()
    sums = sums_of(web, standing)
    others = [place for place, total in enumerate(sums) if total != 1]
    if len(others) != 1:
        return False
    if others[0] in spots:
        return sums[others[0]] == 0
    return sums[others[0]] == 2
